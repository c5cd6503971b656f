/-
  The document's pool: room. (genPoQF.py)
  The document's pool: room. (genPoQF.py)
-/
import Derived.Test.YtnideelidfpicaaGreatDoorK49
import Derived.Deep.Cut
namespace Go.Proofs.YtnideelidfpicaaGreatDoor
open Go.RowKit
set_option linter.unusedVariables false
set_option linter.unusedSimpArgs false
set_option linter.unusedSectionVars false
set_option maxRecDepth 100000
section
variable {w w' : World} {q : QQ} {l : List Int} {m z : Nat} {X : PS (List Int)} {F : Nat → Prop}
set_option maxHeartbeats 4000000 in
theorem room_big_clean (H : QI q z X m w F) (hI : Inv q.n X.f X.D) (hm : m < 70000) (hem : fstB q.n (emB q.n X.f) = none) {a : Nat} (hA : X.A = (a : Int) :: l) (hx : q.n ≤ a) {v : Nat} (hv : fstB q.n (idB q.n X.f) = some v) (hd : (X.f v).dirty = false) : Calls Tryz.prog 62 #[q.ptr] w fun e w' => e = .returned (.tuple #[.int .i64 v, .int .i64 0]) ∧ Led (QI q z { X with A := l, sc := X.sc + 1, f := upd X.f v zF } (m + 3)) F w w' := by
  have HE := H.freeT hI
  rw [hem, show plZ none = -1 from rfl] at HE
  have HC := Lib.hid HE
  obtain ⟨_, c1, lb, lf⟩ := H.c
  obtain ⟨hd1, hd2⟩ := H.d1
  obtain ⟨c3, hsc⟩ := H.ch
  have hz2 := H.fzh 2
  have hz3 := H.fzh 3
  have hn := H.hn
  obtain ⟨b, off, c, c2, u1, u2, u3, u4, KP⟩ := H.pop hA
  have HKP := Lib.hid KP
  clear KP
  have hvn : v < q.n := (fstB_some hv).1
  have hbv := H.bdk v
  have KW : Hid (∀ w2, QI q z { X with A := l, sc := X.sc + 1 } (m + 1) w2 F → w2.cell? ⟨q.pb, 0, none⟩ = some (.pointer (some ⟨q.rb, 0, none⟩)) ∧ w2.cell? ⟨q.pb, 1, none⟩ = some (.slice (some ⟨q.fb, 0, none⟩) q.n q.n) ∧ q.pb < w2.heap.size ∧ q.fb < w2.heap.size ∧ (w2.cell? ⟨q.fb, v * 4, none⟩ = some (.int .u32 (X.f v).id) ∧ w2.cell? ⟨q.fb, v * 4 + 1, none⟩ = some (.int .u64 (X.f v).val) ∧ w2.cell? ⟨q.fb, v * 4 + 2, none⟩ = some (.int .i64 (X.f v).pins) ∧ w2.cell? ⟨q.fb, v * 4 + 3, none⟩ = some (.bool (X.f v).dirty)) ∧ (∀ i, w2.frozen? ⟨q.fb, i, none⟩ = false) ∧ ∀ i, F i → i < w2.heap.size) := fun w2 h => ⟨h.c.1, h.c.2.1, h.c.2.2.1, h.c.2.2.2, h.cf hvn, h.fz, h.lt⟩
  have KN : Hid (∀ w2 w3, QI q z { X with A := l, sc := X.sc + 1 } (m + 1) w2 F → Fr NoF w2 w3 → QI q z { X with A := l, sc := X.sc + 1 } (m + 1) w3 F) := fun w2 w3 h g => h.fr0 g
  have KF : Hid (∀ w2, QI q z { X with A := l, sc := X.sc + 1 } (m + 1) w2 F → Fr F w w2 → Calls Tryz.prog 90 #[q.ptr, .bool false] w2 fun e w' => e = .returned (.int .i64 v) ∧ QI q z { X with A := l, sc := X.sc + 1 } (m + 1) w' F ∧ Fr F w w') := fun w2 h g => by
    have := h.freeF
    rw [show ({ X with A := l, sc := X.sc + 1 } : PS (List Int)).f = X.f from rfl, hv] at this
    refine this.mono ?_
    rintro e w' ⟨he, rfl⟩
    exact ⟨he, h, g⟩
  have KS : Hid (∀ w2, QI q z { X with A := l } m w2 F → QI q z { X with A := l, sc := X.sc + 1 } (m + 1) (w2.setCell ⟨q.pb, 3, none⟩ (.int .i64 ((X.sc : Int) + 1))) F ∧ Fr F w2 (w2.setCell ⟨q.pb, 3, none⟩ (.int .i64 ((X.sc : Int) + 1)))) := fun w2 h => h.scan
  have KG : Hid (∀ w2 w3, Fr F w w2 → Fr F w2 w3 → Fr F w w3) := fun w2 w3 g1 g2 => g1.trans g2 (fun i k => .inl k)
  have hcw : IntKind.i64.wrap ((X.sc : Int) + 1) = (X.sc : Int) + 1 := IntWalk.i64_in _ (by omega)
  have KE : Hid (∀ w2 wf, QI q z { X with A := l, sc := X.sc + 1 } (m + 1) w2 F → wf = (((w2.setCell ⟨q.fb, v * 4, none⟩ (.int .u32 (zF.id : Nat))).setCell ⟨q.fb, v * 4 + 1, none⟩ (.int .u64 (zF.val : Nat))).setCell ⟨q.fb, v * 4 + 2, none⟩ (.int .i64 (zF.pins : Nat))).setCell ⟨q.fb, v * 4 + 3, none⟩ (.bool zF.dirty) → Led (QI q z { X with A := l, sc := X.sc + 1, f := upd X.f v zF } (m + 3)) F w2 wf) := fun w2 wf h hw => (h.wipe hvn (x := zF) ⟨by decide, by decide, by show 0 ≤ m + 1; omega⟩ hw).mono (fun F' h => h.more (by omega))
  have hscn : X.sc < 900000 := by omega
  have hxd : decide ((a : Int) < 0) = false := by simp
  have hxe : decide ((a : Int) ≥ (q.n : Int)) = true := decide_eq_true (by omega)
  have hxf : decide ((q.n : Int) ≤ (a : Int)) = true := decide_eq_true (by omega)
  have HH := Lib.hid H
  have hid' : ∀ (w2 : World), True := fun _ => trivial
  clear hid'
  generalize (X.f v).id = xi at *
  generalize (X.f v).val = xv at *
  generalize (X.f v).pins = xp at *
  rw [hd] at KW
  unfold QQ.ptr at *
  clear H hI hem HE hbv hd hv
  unfold maxLen at u2
  have HU2 := Lib.hid u2
  clear u2
  by_cases hc : c = 1
  · subst hc
    have hl0 : l.length = 0 := by omega
    rw [hl0] at c2 HKP
    go_enter Tryz.func62, Tryz.ntmps62
    go_wp2_with fail
    refine HC.out.mono ?_
    rintro e w1 ⟨rfl, rfl⟩
    go_wp2_with fail
    refine (KF.out _ (KS.out _ (HKP.out _ (.inl ⟨by first | rfl | trivial, by first | rfl | trivial⟩)).1).1 (KG.out _ _ (HKP.out _ (.inl ⟨by first | rfl | trivial, by first | rfl | trivial⟩)).2 (KS.out _ (HKP.out _ (.inl ⟨by first | rfl | trivial, by first | rfl | trivial⟩)).1).2)).mono ?_
    rintro e w2 ⟨rfl, hy, gy⟩
    obtain ⟨x0, x1, x2, x3, ⟨y0, y1, y2, y3⟩, x4, x5⟩ := KW.out w2 hy
    have z0 := x4 (v * 4)
    have z1 := x4 (v * 4 + 1)
    have z2 := x4 (v * 4 + 2)
    have z3 := x4 (v * 4 + 3)
    have GY := Lib.hid gy
    have HY := Lib.hid hy
    clear gy x4
    have hA2 : Fr NoF w2 (w2.alloc (.cells #[.int .u32 xi, .int .u64 xv, .int .i64 xp, .bool false] 94)) := (Fr.refl NoF w2).alloc _
    have hq3 := KN.out w2 _ hy hA2
    have HQ3 := Lib.hid hq3
    have HA2 := Lib.hid hA2
    obtain ⟨a0, a1, a2, a3, ⟨b0, b1, b2, b3⟩, a4, a5⟩ := KW.out _ hq3
    have f0 := a4 (v * 4)
    have f1 := a4 (v * 4 + 1)
    have f2 := a4 (v * 4 + 2)
    have f3 := a4 (v * 4 + 3)
    have bx : Blk (w2.alloc (.cells #[.int .u32 xi, .int .u64 xv, .int .i64 xp, .bool false] 94)) w2.heap.size 4 (fun i => if i = 0 then .int .u32 xi else if i = 1 then .int .u64 xv else if i = 2 then .int .i64 xp else .bool false) := Blk.new w2 #[.int .u32 xi, .int .u64 xv, .int .i64 xp, .bool false] 94 4 _ _ rfl rfl (fun i hi => by
      match i, hi with
      | 0, _ => rfl
      | 1, _ => rfl
      | 2, _ => rfl
      | 3, _ => rfl)
    have g0 := bx.cell (i := 0) (by omega)
    have g1 := bx.cell (i := 1) (by omega)
    have g3 := bx.cell (i := 3) (by omega)
    have gl := bx.lt
    simp only [Nat.reduceEqDiff, if_true, if_false] at g0 g1 g3
    clear a4 hy hq3 hA2 bx
    go_upto_region 16 with fail
    generalize (w2.alloc (.cells #[.int .u32 xi, .int .u64 xv, .int .i64 xp, .bool false] 94)) = w3 at *
    go_wp2
    go_returns
    refine ⟨rfl, ?_⟩
    exact Led.trans (R := fun _ _ => True) GY.out (fun i k => .inl k) (Led.trans (R := fun _ _ => True) (HA2.out.mono (fun _ k => k.elim)) (fun i k => .inl k) (KE.out _ _ HQ3.out rfl))
  · have hc2 : 1 < c := by omega
    go_enter Tryz.func62, Tryz.ntmps62
    go_wp2_with fail
    refine HC.out.mono ?_
    rintro e w1 ⟨rfl, rfl⟩
    go_wp2_with fail
    refine (KF.out _ (KS.out _ (HKP.out _ (.inr ⟨by first | rfl | (congr 1 <;> omega), hc⟩)).1).1 (KG.out _ _ (HKP.out _ (.inr ⟨by first | rfl | (congr 1 <;> omega), hc⟩)).2 (KS.out _ (HKP.out _ (.inr ⟨by first | rfl | (congr 1 <;> omega), hc⟩)).1).2)).mono ?_
    rintro e w2 ⟨rfl, hy, gy⟩
    obtain ⟨x0, x1, x2, x3, ⟨y0, y1, y2, y3⟩, x4, x5⟩ := KW.out w2 hy
    have z0 := x4 (v * 4)
    have z1 := x4 (v * 4 + 1)
    have z2 := x4 (v * 4 + 2)
    have z3 := x4 (v * 4 + 3)
    have GY := Lib.hid gy
    have HY := Lib.hid hy
    clear gy x4
    have hA2 : Fr NoF w2 (w2.alloc (.cells #[.int .u32 xi, .int .u64 xv, .int .i64 xp, .bool false] 94)) := (Fr.refl NoF w2).alloc _
    have hq3 := KN.out w2 _ hy hA2
    have HQ3 := Lib.hid hq3
    have HA2 := Lib.hid hA2
    obtain ⟨a0, a1, a2, a3, ⟨b0, b1, b2, b3⟩, a4, a5⟩ := KW.out _ hq3
    have f0 := a4 (v * 4)
    have f1 := a4 (v * 4 + 1)
    have f2 := a4 (v * 4 + 2)
    have f3 := a4 (v * 4 + 3)
    have bx : Blk (w2.alloc (.cells #[.int .u32 xi, .int .u64 xv, .int .i64 xp, .bool false] 94)) w2.heap.size 4 (fun i => if i = 0 then .int .u32 xi else if i = 1 then .int .u64 xv else if i = 2 then .int .i64 xp else .bool false) := Blk.new w2 #[.int .u32 xi, .int .u64 xv, .int .i64 xp, .bool false] 94 4 _ _ rfl rfl (fun i hi => by
      match i, hi with
      | 0, _ => rfl
      | 1, _ => rfl
      | 2, _ => rfl
      | 3, _ => rfl)
    have g0 := bx.cell (i := 0) (by omega)
    have g1 := bx.cell (i := 1) (by omega)
    have g3 := bx.cell (i := 3) (by omega)
    have gl := bx.lt
    simp only [Nat.reduceEqDiff, if_true, if_false] at g0 g1 g3
    clear a4 hy hq3 hA2 bx
    go_upto_region 16 with fail
    generalize (w2.alloc (.cells #[.int .u32 xi, .int .u64 xv, .int .i64 xp, .bool false] 94)) = w3 at *
    go_wp2
    go_returns
    refine ⟨rfl, ?_⟩
    exact Led.trans (R := fun _ _ => True) GY.out (fun i k => .inl k) (Led.trans (R := fun _ _ => True) (HA2.out.mono (fun _ k => k.elim)) (fun i k => .inl k) (KE.out _ _ HQ3.out rfl))
set_option maxHeartbeats 4000000 in
theorem room_big_wrote (H : QI q z X m w F) (hI : Inv q.n X.f X.D) (hm : m < 70000) (hem : fstB q.n (emB q.n X.f) = none) {a : Nat} (hA : X.A = (a : Int) :: l) (hx : q.n ≤ a) {v : Nat} (hv : fstB q.n (idB q.n X.f) = some v) (hd : (X.f v).dirty = true) (he0 : (X.D.write (X.f v).id (X.f v).val).1 = 0) : Calls Tryz.prog 62 #[q.ptr] w fun e w' => e = .returned (.tuple #[.int .i64 v, .int .i64 0]) ∧ Led (QI q z { X with A := l, sc := X.sc + 1, f := upd X.f v zF, D := (X.D.write (X.f v).id (X.f v).val).2 } (m + 3)) F w w' := by
  have HE := H.freeT hI
  rw [hem, show plZ none = -1 from rfl] at HE
  have HC := Lib.hid HE
  obtain ⟨_, c1, lb, lf⟩ := H.c
  obtain ⟨hd1, hd2⟩ := H.d1
  obtain ⟨c3, hsc⟩ := H.ch
  have hz2 := H.fzh 2
  have hz3 := H.fzh 3
  have hn := H.hn
  obtain ⟨b, off, c, c2, u1, u2, u3, u4, KP⟩ := H.pop hA
  have HKP := Lib.hid KP
  clear KP
  have hvn : v < q.n := (fstB_some hv).1
  have hbv := H.bdk v
  have KW : Hid (∀ w2, QI q z { X with A := l, sc := X.sc + 1 } (m + 1) w2 F → w2.cell? ⟨q.pb, 0, none⟩ = some (.pointer (some ⟨q.rb, 0, none⟩)) ∧ w2.cell? ⟨q.pb, 1, none⟩ = some (.slice (some ⟨q.fb, 0, none⟩) q.n q.n) ∧ q.pb < w2.heap.size ∧ q.fb < w2.heap.size ∧ (w2.cell? ⟨q.fb, v * 4, none⟩ = some (.int .u32 (X.f v).id) ∧ w2.cell? ⟨q.fb, v * 4 + 1, none⟩ = some (.int .u64 (X.f v).val) ∧ w2.cell? ⟨q.fb, v * 4 + 2, none⟩ = some (.int .i64 (X.f v).pins) ∧ w2.cell? ⟨q.fb, v * 4 + 3, none⟩ = some (.bool (X.f v).dirty)) ∧ (∀ i, w2.frozen? ⟨q.fb, i, none⟩ = false) ∧ ∀ i, F i → i < w2.heap.size) := fun w2 h => ⟨h.c.1, h.c.2.1, h.c.2.2.1, h.c.2.2.2, h.cf hvn, h.fz, h.lt⟩
  have KN : Hid (∀ w2 w3, QI q z { X with A := l, sc := X.sc + 1 } (m + 1) w2 F → Fr NoF w2 w3 → QI q z { X with A := l, sc := X.sc + 1 } (m + 1) w3 F) := fun w2 w3 h g => h.fr0 g
  have KF : Hid (∀ w2, QI q z { X with A := l, sc := X.sc + 1 } (m + 1) w2 F → Fr F w w2 → Calls Tryz.prog 90 #[q.ptr, .bool false] w2 fun e w' => e = .returned (.int .i64 v) ∧ QI q z { X with A := l, sc := X.sc + 1 } (m + 1) w' F ∧ Fr F w w') := fun w2 h g => by
    have := h.freeF
    rw [show ({ X with A := l, sc := X.sc + 1 } : PS (List Int)).f = X.f from rfl, hv] at this
    refine this.mono ?_
    rintro e w' ⟨he, rfl⟩
    exact ⟨he, h, g⟩
  have KS : Hid (∀ w2, QI q z { X with A := l } m w2 F → QI q z { X with A := l, sc := X.sc + 1 } (m + 1) (w2.setCell ⟨q.pb, 3, none⟩ (.int .i64 ((X.sc : Int) + 1))) F ∧ Fr F w2 (w2.setCell ⟨q.pb, 3, none⟩ (.int .i64 ((X.sc : Int) + 1)))) := fun w2 h => h.scan
  have KG : Hid (∀ w2 w3, Fr F w w2 → Fr F w2 w3 → Fr F w w3) := fun w2 w3 g1 g2 => g1.trans g2 (fun i k => .inl k)
  have hcw : IntKind.i64.wrap ((X.sc : Int) + 1) = (X.sc : Int) + 1 := IntWalk.i64_in _ (by omega)
  have KD : Hid (∀ w2, QI q z { X with A := l, sc := X.sc + 1 } (m + 1) w2 F → Calls Tryz.prog 67 #[.pointer (some ⟨q.rb, 0, none⟩), .int .u32 (X.f v).id, .int .u64 (X.f v).val] w2 fun e w' => e = .returned (.int .i64 (X.D.write (X.f v).id (X.f v).val).1) ∧ Led (QI q z { X with A := l, sc := X.sc + 1, D := (X.D.write (X.f v).id (X.f v).val).2 } (m + 2)) F w2 w') := fun w2 h => h.dwrite (by omega) _ hbv.2.1
  have KE : Hid (∀ w2 F2 wf, QI q z { X with A := l, sc := X.sc + 1, D := (X.D.write (X.f v).id (X.f v).val).2 } (m + 2) w2 F2 → wf = (((w2.setCell ⟨q.fb, v * 4, none⟩ (.int .u32 (zF.id : Nat))).setCell ⟨q.fb, v * 4 + 1, none⟩ (.int .u64 (zF.val : Nat))).setCell ⟨q.fb, v * 4 + 2, none⟩ (.int .i64 (zF.pins : Nat))).setCell ⟨q.fb, v * 4 + 3, none⟩ (.bool zF.dirty) → Led (QI q z { X with A := l, sc := X.sc + 1, f := upd X.f v zF, D := (X.D.write (X.f v).id (X.f v).val).2 } (m + 3)) F2 w2 wf) := fun w2 F2 wf h hw => (h.wipe hvn (x := zF) ⟨by decide, by decide, by show 0 ≤ m + 2; omega⟩ hw).mono (fun F' h => h.more (by omega))
  have KX : Hid (∀ w2 F2, QI q z { X with A := l, sc := X.sc + 1, D := (X.D.write (X.f v).id (X.f v).val).2 } (m + 2) w2 F2 → w2.cell? ⟨q.pb, 1, none⟩ = some (.slice (some ⟨q.fb, 0, none⟩) q.n q.n) ∧ q.pb < w2.heap.size ∧ q.fb < w2.heap.size ∧ (w2.cell? ⟨q.fb, v * 4, none⟩ = some (.int .u32 (X.f v).id) ∧ w2.cell? ⟨q.fb, v * 4 + 1, none⟩ = some (.int .u64 (X.f v).val) ∧ w2.cell? ⟨q.fb, v * 4 + 2, none⟩ = some (.int .i64 (X.f v).pins) ∧ w2.cell? ⟨q.fb, v * 4 + 3, none⟩ = some (.bool (X.f v).dirty)) ∧ (∀ i, w2.frozen? ⟨q.fb, i, none⟩ = false)) := fun w2 F2 h => ⟨h.c.2.1, h.c.2.2.1, h.c.2.2.2, h.cf hvn, h.fz⟩
  have hscn : X.sc < 900000 := by omega
  have hxd : decide ((a : Int) < 0) = false := by simp
  have hxe : decide ((a : Int) ≥ (q.n : Int)) = true := decide_eq_true (by omega)
  have hxf : decide ((q.n : Int) ≤ (a : Int)) = true := decide_eq_true (by omega)
  have HH := Lib.hid H
  have hid' : ∀ (w2 : World), True := fun _ => trivial
  clear hid'
  generalize (X.f v).id = xi at *
  generalize (X.f v).val = xv at *
  generalize (X.f v).pins = xp at *
  rw [hd] at KW KX
  generalize hww : X.D.write xi xv = R at *
  obtain ⟨er, D2⟩ := R
  dsimp only at *
  clear hww
  subst he0
  unfold QQ.ptr at *
  clear H hI hem HE hbv hd hv
  unfold maxLen at u2
  have HU2 := Lib.hid u2
  clear u2
  by_cases hc : c = 1
  · subst hc
    have hl0 : l.length = 0 := by omega
    rw [hl0] at c2 HKP
    go_enter Tryz.func62, Tryz.ntmps62
    go_wp2_with fail
    refine HC.out.mono ?_
    rintro e w1 ⟨rfl, rfl⟩
    go_wp2_with fail
    refine (KF.out _ (KS.out _ (HKP.out _ (.inl ⟨by first | rfl | trivial, by first | rfl | trivial⟩)).1).1 (KG.out _ _ (HKP.out _ (.inl ⟨by first | rfl | trivial, by first | rfl | trivial⟩)).2 (KS.out _ (HKP.out _ (.inl ⟨by first | rfl | trivial, by first | rfl | trivial⟩)).1).2)).mono ?_
    rintro e w2 ⟨rfl, hy, gy⟩
    obtain ⟨x0, x1, x2, x3, ⟨y0, y1, y2, y3⟩, x4, x5⟩ := KW.out w2 hy
    have z0 := x4 (v * 4)
    have z1 := x4 (v * 4 + 1)
    have z2 := x4 (v * 4 + 2)
    have z3 := x4 (v * 4 + 3)
    have GY := Lib.hid gy
    have HY := Lib.hid hy
    clear gy x4
    have hA2 : Fr NoF w2 (w2.alloc (.cells #[.int .u32 xi, .int .u64 xv, .int .i64 xp, .bool true] 94)) := (Fr.refl NoF w2).alloc _
    have hq3 := KN.out w2 _ hy hA2
    have HQ3 := Lib.hid hq3
    have HA2 := Lib.hid hA2
    obtain ⟨a0, a1, a2, a3, ⟨b0, b1, b2, b3⟩, a4, a5⟩ := KW.out _ hq3
    have f0 := a4 (v * 4)
    have f1 := a4 (v * 4 + 1)
    have f2 := a4 (v * 4 + 2)
    have f3 := a4 (v * 4 + 3)
    have bx : Blk (w2.alloc (.cells #[.int .u32 xi, .int .u64 xv, .int .i64 xp, .bool true] 94)) w2.heap.size 4 (fun i => if i = 0 then .int .u32 xi else if i = 1 then .int .u64 xv else if i = 2 then .int .i64 xp else .bool true) := Blk.new w2 #[.int .u32 xi, .int .u64 xv, .int .i64 xp, .bool true] 94 4 _ _ rfl rfl (fun i hi => by
      match i, hi with
      | 0, _ => rfl
      | 1, _ => rfl
      | 2, _ => rfl
      | 3, _ => rfl)
    have g0 := bx.cell (i := 0) (by omega)
    have g1 := bx.cell (i := 1) (by omega)
    have g3 := bx.cell (i := 3) (by omega)
    have gl := bx.lt
    simp only [Nat.reduceEqDiff, if_true, if_false] at g0 g1 g3
    clear a4 hy hq3 hA2 bx
    go_wp2_with fail
    generalize (w2.alloc (.cells #[.int .u32 xi, .int .u64 xv, .int .i64 xp, .bool true] 94)) = w3 at *
    go_still_tail 8, (by kernel_rfl)
    go_wp2_with fail
    refine (KD.out _ (KN.out _ _ HQ3.out ((Fr.refl NoF w3).drew))).mono ?_
    rintro e w4 ⟨rfl, F4, h4, k4, j4⟩
    obtain ⟨m1, m2, m3, ⟨n0, n1, n2, n3⟩, m4⟩ := KX.out _ _ h4
    have r0 := m4 (v * 4)
    have r1 := m4 (v * 4 + 1)
    have r2 := m4 (v * 4 + 2)
    have r3 := m4 (v * 4 + 3)
    have H4 := Lib.hid h4
    have K4 := Lib.hid k4
    have J4 := Lib.hid j4
    clear h4 k4 j4 m4
    go_wp2
    go_returns
    exact ⟨rfl, Led.trans (R := fun _ _ => True) GY.out (fun i k => .inl k) (Led.trans (R := fun _ _ => True) (HA2.out.mono (fun _ k => k.elim)) (fun i k => .inl k) (Led.trans (R := fun _ _ => True) ((Fr.refl F w3).drew) (fun i k => .inl k) (Led.trans (R := fun _ _ => True) K4.out J4.out (KE.out _ _ _ H4.out rfl))))⟩
  · have hc2 : 1 < c := by omega
    go_enter Tryz.func62, Tryz.ntmps62
    go_wp2_with fail
    refine HC.out.mono ?_
    rintro e w1 ⟨rfl, rfl⟩
    go_wp2_with fail
    refine (KF.out _ (KS.out _ (HKP.out _ (.inr ⟨by first | rfl | (congr 1 <;> omega), hc⟩)).1).1 (KG.out _ _ (HKP.out _ (.inr ⟨by first | rfl | (congr 1 <;> omega), hc⟩)).2 (KS.out _ (HKP.out _ (.inr ⟨by first | rfl | (congr 1 <;> omega), hc⟩)).1).2)).mono ?_
    rintro e w2 ⟨rfl, hy, gy⟩
    obtain ⟨x0, x1, x2, x3, ⟨y0, y1, y2, y3⟩, x4, x5⟩ := KW.out w2 hy
    have z0 := x4 (v * 4)
    have z1 := x4 (v * 4 + 1)
    have z2 := x4 (v * 4 + 2)
    have z3 := x4 (v * 4 + 3)
    have GY := Lib.hid gy
    have HY := Lib.hid hy
    clear gy x4
    have hA2 : Fr NoF w2 (w2.alloc (.cells #[.int .u32 xi, .int .u64 xv, .int .i64 xp, .bool true] 94)) := (Fr.refl NoF w2).alloc _
    have hq3 := KN.out w2 _ hy hA2
    have HQ3 := Lib.hid hq3
    have HA2 := Lib.hid hA2
    obtain ⟨a0, a1, a2, a3, ⟨b0, b1, b2, b3⟩, a4, a5⟩ := KW.out _ hq3
    have f0 := a4 (v * 4)
    have f1 := a4 (v * 4 + 1)
    have f2 := a4 (v * 4 + 2)
    have f3 := a4 (v * 4 + 3)
    have bx : Blk (w2.alloc (.cells #[.int .u32 xi, .int .u64 xv, .int .i64 xp, .bool true] 94)) w2.heap.size 4 (fun i => if i = 0 then .int .u32 xi else if i = 1 then .int .u64 xv else if i = 2 then .int .i64 xp else .bool true) := Blk.new w2 #[.int .u32 xi, .int .u64 xv, .int .i64 xp, .bool true] 94 4 _ _ rfl rfl (fun i hi => by
      match i, hi with
      | 0, _ => rfl
      | 1, _ => rfl
      | 2, _ => rfl
      | 3, _ => rfl)
    have g0 := bx.cell (i := 0) (by omega)
    have g1 := bx.cell (i := 1) (by omega)
    have g3 := bx.cell (i := 3) (by omega)
    have gl := bx.lt
    simp only [Nat.reduceEqDiff, if_true, if_false] at g0 g1 g3
    clear a4 hy hq3 hA2 bx
    go_wp2_with fail
    generalize (w2.alloc (.cells #[.int .u32 xi, .int .u64 xv, .int .i64 xp, .bool true] 94)) = w3 at *
    go_still_tail 8, (by kernel_rfl)
    go_wp2_with fail
    refine (KD.out _ (KN.out _ _ HQ3.out ((Fr.refl NoF w3).drew))).mono ?_
    rintro e w4 ⟨rfl, F4, h4, k4, j4⟩
    obtain ⟨m1, m2, m3, ⟨n0, n1, n2, n3⟩, m4⟩ := KX.out _ _ h4
    have r0 := m4 (v * 4)
    have r1 := m4 (v * 4 + 1)
    have r2 := m4 (v * 4 + 2)
    have r3 := m4 (v * 4 + 3)
    have H4 := Lib.hid h4
    have K4 := Lib.hid k4
    have J4 := Lib.hid j4
    clear h4 k4 j4 m4
    go_wp2
    go_returns
    exact ⟨rfl, Led.trans (R := fun _ _ => True) GY.out (fun i k => .inl k) (Led.trans (R := fun _ _ => True) (HA2.out.mono (fun _ k => k.elim)) (fun i k => .inl k) (Led.trans (R := fun _ _ => True) ((Fr.refl F w3).drew) (fun i k => .inl k) (Led.trans (R := fun _ _ => True) K4.out J4.out (KE.out _ _ _ H4.out rfl))))⟩
set_option maxHeartbeats 4000000 in
theorem room_big_err (H : QI q z X m w F) (hI : Inv q.n X.f X.D) (hm : m < 70000) (hem : fstB q.n (emB q.n X.f) = none) {a : Nat} (hA : X.A = (a : Int) :: l) (hx : q.n ≤ a) {v : Nat} (hv : fstB q.n (idB q.n X.f) = some v) (hd : (X.f v).dirty = true) (he0 : ¬ (X.D.write (X.f v).id (X.f v).val).1 = 0) : Calls Tryz.prog 62 #[q.ptr] w fun e w' => e = .returned (.tuple #[.int .i64 (-1), .int .i64 (X.D.write (X.f v).id (X.f v).val).1]) ∧ Led (QI q z { X with A := l, sc := X.sc + 1, D := (X.D.write (X.f v).id (X.f v).val).2 } (m + 3)) F w w' := by
  have HE := H.freeT hI
  rw [hem, show plZ none = -1 from rfl] at HE
  have HC := Lib.hid HE
  obtain ⟨_, c1, lb, lf⟩ := H.c
  obtain ⟨hd1, hd2⟩ := H.d1
  obtain ⟨c3, hsc⟩ := H.ch
  have hz2 := H.fzh 2
  have hz3 := H.fzh 3
  have hn := H.hn
  obtain ⟨b, off, c, c2, u1, u2, u3, u4, KP⟩ := H.pop hA
  have HKP := Lib.hid KP
  clear KP
  have hvn : v < q.n := (fstB_some hv).1
  have hbv := H.bdk v
  have KW : Hid (∀ w2, QI q z { X with A := l, sc := X.sc + 1 } (m + 1) w2 F → w2.cell? ⟨q.pb, 0, none⟩ = some (.pointer (some ⟨q.rb, 0, none⟩)) ∧ w2.cell? ⟨q.pb, 1, none⟩ = some (.slice (some ⟨q.fb, 0, none⟩) q.n q.n) ∧ q.pb < w2.heap.size ∧ q.fb < w2.heap.size ∧ (w2.cell? ⟨q.fb, v * 4, none⟩ = some (.int .u32 (X.f v).id) ∧ w2.cell? ⟨q.fb, v * 4 + 1, none⟩ = some (.int .u64 (X.f v).val) ∧ w2.cell? ⟨q.fb, v * 4 + 2, none⟩ = some (.int .i64 (X.f v).pins) ∧ w2.cell? ⟨q.fb, v * 4 + 3, none⟩ = some (.bool (X.f v).dirty)) ∧ (∀ i, w2.frozen? ⟨q.fb, i, none⟩ = false) ∧ ∀ i, F i → i < w2.heap.size) := fun w2 h => ⟨h.c.1, h.c.2.1, h.c.2.2.1, h.c.2.2.2, h.cf hvn, h.fz, h.lt⟩
  have KN : Hid (∀ w2 w3, QI q z { X with A := l, sc := X.sc + 1 } (m + 1) w2 F → Fr NoF w2 w3 → QI q z { X with A := l, sc := X.sc + 1 } (m + 1) w3 F) := fun w2 w3 h g => h.fr0 g
  have KF : Hid (∀ w2, QI q z { X with A := l, sc := X.sc + 1 } (m + 1) w2 F → Fr F w w2 → Calls Tryz.prog 90 #[q.ptr, .bool false] w2 fun e w' => e = .returned (.int .i64 v) ∧ QI q z { X with A := l, sc := X.sc + 1 } (m + 1) w' F ∧ Fr F w w') := fun w2 h g => by
    have := h.freeF
    rw [show ({ X with A := l, sc := X.sc + 1 } : PS (List Int)).f = X.f from rfl, hv] at this
    refine this.mono ?_
    rintro e w' ⟨he, rfl⟩
    exact ⟨he, h, g⟩
  have KS : Hid (∀ w2, QI q z { X with A := l } m w2 F → QI q z { X with A := l, sc := X.sc + 1 } (m + 1) (w2.setCell ⟨q.pb, 3, none⟩ (.int .i64 ((X.sc : Int) + 1))) F ∧ Fr F w2 (w2.setCell ⟨q.pb, 3, none⟩ (.int .i64 ((X.sc : Int) + 1)))) := fun w2 h => h.scan
  have KG : Hid (∀ w2 w3, Fr F w w2 → Fr F w2 w3 → Fr F w w3) := fun w2 w3 g1 g2 => g1.trans g2 (fun i k => .inl k)
  have hcw : IntKind.i64.wrap ((X.sc : Int) + 1) = (X.sc : Int) + 1 := IntWalk.i64_in _ (by omega)
  have KD : Hid (∀ w2, QI q z { X with A := l, sc := X.sc + 1 } (m + 1) w2 F → Calls Tryz.prog 67 #[.pointer (some ⟨q.rb, 0, none⟩), .int .u32 (X.f v).id, .int .u64 (X.f v).val] w2 fun e w' => e = .returned (.int .i64 (X.D.write (X.f v).id (X.f v).val).1) ∧ Led (QI q z { X with A := l, sc := X.sc + 1, D := (X.D.write (X.f v).id (X.f v).val).2 } (m + 2)) F w2 w') := fun w2 h => h.dwrite (by omega) _ hbv.2.1
  have KM : Hid (∀ w2 F2, QI q z { X with A := l, sc := X.sc + 1, D := (X.D.write (X.f v).id (X.f v).val).2 } (m + 2) w2 F2 → QI q z { X with A := l, sc := X.sc + 1, D := (X.D.write (X.f v).id (X.f v).val).2 } (m + 3) w2 F2) := fun w2 F2 h => h.more (by omega)
  have hscn : X.sc < 900000 := by omega
  have hxd : decide ((a : Int) < 0) = false := by simp
  have hxe : decide ((a : Int) ≥ (q.n : Int)) = true := decide_eq_true (by omega)
  have hxf : decide ((q.n : Int) ≤ (a : Int)) = true := decide_eq_true (by omega)
  have HH := Lib.hid H
  have hid' : ∀ (w2 : World), True := fun _ => trivial
  clear hid'
  generalize (X.f v).id = xi at *
  generalize (X.f v).val = xv at *
  generalize (X.f v).pins = xp at *
  rw [hd] at KW
  generalize hww : X.D.write xi xv = R at *
  obtain ⟨er, D2⟩ := R
  dsimp only at *
  clear hww
  have hne : (((er : Nat) : Int) == 0) = false := by simp <;> exact he0
  unfold QQ.ptr at *
  clear H hI hem HE hbv hd hv he0
  unfold maxLen at u2
  have HU2 := Lib.hid u2
  clear u2
  by_cases hc : c = 1
  · subst hc
    have hl0 : l.length = 0 := by omega
    rw [hl0] at c2 HKP
    go_enter Tryz.func62, Tryz.ntmps62
    go_wp2_with fail
    refine HC.out.mono ?_
    rintro e w1 ⟨rfl, rfl⟩
    go_wp2_with fail
    refine (KF.out _ (KS.out _ (HKP.out _ (.inl ⟨by first | rfl | trivial, by first | rfl | trivial⟩)).1).1 (KG.out _ _ (HKP.out _ (.inl ⟨by first | rfl | trivial, by first | rfl | trivial⟩)).2 (KS.out _ (HKP.out _ (.inl ⟨by first | rfl | trivial, by first | rfl | trivial⟩)).1).2)).mono ?_
    rintro e w2 ⟨rfl, hy, gy⟩
    obtain ⟨x0, x1, x2, x3, ⟨y0, y1, y2, y3⟩, x4, x5⟩ := KW.out w2 hy
    have z0 := x4 (v * 4)
    have z1 := x4 (v * 4 + 1)
    have z2 := x4 (v * 4 + 2)
    have z3 := x4 (v * 4 + 3)
    have GY := Lib.hid gy
    have HY := Lib.hid hy
    clear gy x4
    have hA2 : Fr NoF w2 (w2.alloc (.cells #[.int .u32 xi, .int .u64 xv, .int .i64 xp, .bool true] 94)) := (Fr.refl NoF w2).alloc _
    have hq3 := KN.out w2 _ hy hA2
    have HQ3 := Lib.hid hq3
    have HA2 := Lib.hid hA2
    obtain ⟨a0, a1, a2, a3, ⟨b0, b1, b2, b3⟩, a4, a5⟩ := KW.out _ hq3
    have f0 := a4 (v * 4)
    have f1 := a4 (v * 4 + 1)
    have f2 := a4 (v * 4 + 2)
    have f3 := a4 (v * 4 + 3)
    have bx : Blk (w2.alloc (.cells #[.int .u32 xi, .int .u64 xv, .int .i64 xp, .bool true] 94)) w2.heap.size 4 (fun i => if i = 0 then .int .u32 xi else if i = 1 then .int .u64 xv else if i = 2 then .int .i64 xp else .bool true) := Blk.new w2 #[.int .u32 xi, .int .u64 xv, .int .i64 xp, .bool true] 94 4 _ _ rfl rfl (fun i hi => by
      match i, hi with
      | 0, _ => rfl
      | 1, _ => rfl
      | 2, _ => rfl
      | 3, _ => rfl)
    have g0 := bx.cell (i := 0) (by omega)
    have g1 := bx.cell (i := 1) (by omega)
    have g3 := bx.cell (i := 3) (by omega)
    have gl := bx.lt
    simp only [Nat.reduceEqDiff, if_true, if_false] at g0 g1 g3
    clear a4 hy hq3 hA2 bx
    go_wp2_with fail
    generalize (w2.alloc (.cells #[.int .u32 xi, .int .u64 xv, .int .i64 xp, .bool true] 94)) = w3 at *
    go_still_tail 8, (by kernel_rfl)
    go_wp2_with fail
    refine (KD.out _ (KN.out _ _ HQ3.out ((Fr.refl NoF w3).drew))).mono ?_
    rintro e w4 ⟨rfl, F4, h4, k4, j4⟩
    have H4 := Lib.hid (KM.out _ _ h4)
    have K4 := Lib.hid k4
    have J4 := Lib.hid j4
    clear h4 k4 j4
    go_wp2
    go_returns
    exact ⟨rfl, Led.trans (R := fun _ _ => True) GY.out (fun i k => .inl k) (Led.trans (R := fun _ _ => True) (HA2.out.mono (fun _ k => k.elim)) (fun i k => .inl k) (Led.trans (R := fun _ _ => True) ((Fr.refl F w3).drew) (fun i k => .inl k) ⟨F4, H4.out, K4.out, J4.out⟩))⟩
  · have hc2 : 1 < c := by omega
    go_enter Tryz.func62, Tryz.ntmps62
    go_wp2_with fail
    refine HC.out.mono ?_
    rintro e w1 ⟨rfl, rfl⟩
    go_wp2_with fail
    refine (KF.out _ (KS.out _ (HKP.out _ (.inr ⟨by first | rfl | (congr 1 <;> omega), hc⟩)).1).1 (KG.out _ _ (HKP.out _ (.inr ⟨by first | rfl | (congr 1 <;> omega), hc⟩)).2 (KS.out _ (HKP.out _ (.inr ⟨by first | rfl | (congr 1 <;> omega), hc⟩)).1).2)).mono ?_
    rintro e w2 ⟨rfl, hy, gy⟩
    obtain ⟨x0, x1, x2, x3, ⟨y0, y1, y2, y3⟩, x4, x5⟩ := KW.out w2 hy
    have z0 := x4 (v * 4)
    have z1 := x4 (v * 4 + 1)
    have z2 := x4 (v * 4 + 2)
    have z3 := x4 (v * 4 + 3)
    have GY := Lib.hid gy
    have HY := Lib.hid hy
    clear gy x4
    have hA2 : Fr NoF w2 (w2.alloc (.cells #[.int .u32 xi, .int .u64 xv, .int .i64 xp, .bool true] 94)) := (Fr.refl NoF w2).alloc _
    have hq3 := KN.out w2 _ hy hA2
    have HQ3 := Lib.hid hq3
    have HA2 := Lib.hid hA2
    obtain ⟨a0, a1, a2, a3, ⟨b0, b1, b2, b3⟩, a4, a5⟩ := KW.out _ hq3
    have f0 := a4 (v * 4)
    have f1 := a4 (v * 4 + 1)
    have f2 := a4 (v * 4 + 2)
    have f3 := a4 (v * 4 + 3)
    have bx : Blk (w2.alloc (.cells #[.int .u32 xi, .int .u64 xv, .int .i64 xp, .bool true] 94)) w2.heap.size 4 (fun i => if i = 0 then .int .u32 xi else if i = 1 then .int .u64 xv else if i = 2 then .int .i64 xp else .bool true) := Blk.new w2 #[.int .u32 xi, .int .u64 xv, .int .i64 xp, .bool true] 94 4 _ _ rfl rfl (fun i hi => by
      match i, hi with
      | 0, _ => rfl
      | 1, _ => rfl
      | 2, _ => rfl
      | 3, _ => rfl)
    have g0 := bx.cell (i := 0) (by omega)
    have g1 := bx.cell (i := 1) (by omega)
    have g3 := bx.cell (i := 3) (by omega)
    have gl := bx.lt
    simp only [Nat.reduceEqDiff, if_true, if_false] at g0 g1 g3
    clear a4 hy hq3 hA2 bx
    go_wp2_with fail
    generalize (w2.alloc (.cells #[.int .u32 xi, .int .u64 xv, .int .i64 xp, .bool true] 94)) = w3 at *
    go_still_tail 8, (by kernel_rfl)
    go_wp2_with fail
    refine (KD.out _ (KN.out _ _ HQ3.out ((Fr.refl NoF w3).drew))).mono ?_
    rintro e w4 ⟨rfl, F4, h4, k4, j4⟩
    have H4 := Lib.hid (KM.out _ _ h4)
    have K4 := Lib.hid k4
    have J4 := Lib.hid j4
    clear h4 k4 j4
    go_wp2
    go_returns
    exact ⟨rfl, Led.trans (R := fun _ _ => True) GY.out (fun i k => .inl k) (Led.trans (R := fun _ _ => True) (HA2.out.mono (fun _ k => k.elim)) (fun i k => .inl k) (Led.trans (R := fun _ _ => True) ((Fr.refl F w3).drew) (fun i k => .inl k) ⟨F4, H4.out, K4.out, J4.out⟩))⟩
set_option maxHeartbeats 4000000 in
theorem room_pin_clean (H : QI q z X m w F) (hI : Inv q.n X.f X.D) (hm : m < 70000) (hem : fstB q.n (emB q.n X.f) = none) {a : Nat} (hA : X.A = (a : Int) :: l) (hx : a < q.n) (hp : ¬ (X.f a).pins = 0) {v : Nat} (hv : fstB q.n (idB q.n X.f) = some v) (hd : (X.f v).dirty = false) : Calls Tryz.prog 62 #[q.ptr] w fun e w' => e = .returned (.tuple #[.int .i64 v, .int .i64 0]) ∧ Led (QI q z { X with A := l, sc := X.sc + 1, f := upd X.f v zF } (m + 3)) F w w' := by
  have HE := H.freeT hI
  rw [hem, show plZ none = -1 from rfl] at HE
  have HC := Lib.hid HE
  obtain ⟨_, c1, lb, lf⟩ := H.c
  obtain ⟨hd1, hd2⟩ := H.d1
  obtain ⟨c3, hsc⟩ := H.ch
  have hz2 := H.fzh 2
  have hz3 := H.fzh 3
  have hn := H.hn
  obtain ⟨b, off, c, c2, u1, u2, u3, u4, KP⟩ := H.pop hA
  have HKP := Lib.hid KP
  clear KP
  have hvn : v < q.n := (fstB_some hv).1
  have hbv := H.bdk v
  have KW : Hid (∀ w2, QI q z { X with A := l, sc := X.sc + 1 } (m + 1) w2 F → w2.cell? ⟨q.pb, 0, none⟩ = some (.pointer (some ⟨q.rb, 0, none⟩)) ∧ w2.cell? ⟨q.pb, 1, none⟩ = some (.slice (some ⟨q.fb, 0, none⟩) q.n q.n) ∧ q.pb < w2.heap.size ∧ q.fb < w2.heap.size ∧ (w2.cell? ⟨q.fb, v * 4, none⟩ = some (.int .u32 (X.f v).id) ∧ w2.cell? ⟨q.fb, v * 4 + 1, none⟩ = some (.int .u64 (X.f v).val) ∧ w2.cell? ⟨q.fb, v * 4 + 2, none⟩ = some (.int .i64 (X.f v).pins) ∧ w2.cell? ⟨q.fb, v * 4 + 3, none⟩ = some (.bool (X.f v).dirty)) ∧ (∀ i, w2.frozen? ⟨q.fb, i, none⟩ = false) ∧ ∀ i, F i → i < w2.heap.size) := fun w2 h => ⟨h.c.1, h.c.2.1, h.c.2.2.1, h.c.2.2.2, h.cf hvn, h.fz, h.lt⟩
  have KN : Hid (∀ w2 w3, QI q z { X with A := l, sc := X.sc + 1 } (m + 1) w2 F → Fr NoF w2 w3 → QI q z { X with A := l, sc := X.sc + 1 } (m + 1) w3 F) := fun w2 w3 h g => h.fr0 g
  have KF : Hid (∀ w2, QI q z { X with A := l, sc := X.sc + 1 } (m + 1) w2 F → Fr F w w2 → Calls Tryz.prog 90 #[q.ptr, .bool false] w2 fun e w' => e = .returned (.int .i64 v) ∧ QI q z { X with A := l, sc := X.sc + 1 } (m + 1) w' F ∧ Fr F w w') := fun w2 h g => by
    have := h.freeF
    rw [show ({ X with A := l, sc := X.sc + 1 } : PS (List Int)).f = X.f from rfl, hv] at this
    refine this.mono ?_
    rintro e w' ⟨he, rfl⟩
    exact ⟨he, h, g⟩
  have KS : Hid (∀ w2, QI q z { X with A := l } m w2 F → QI q z { X with A := l, sc := X.sc + 1 } (m + 1) (w2.setCell ⟨q.pb, 3, none⟩ (.int .i64 ((X.sc : Int) + 1))) F ∧ Fr F w2 (w2.setCell ⟨q.pb, 3, none⟩ (.int .i64 ((X.sc : Int) + 1)))) := fun w2 h => h.scan
  have KG : Hid (∀ w2 w3, Fr F w w2 → Fr F w2 w3 → Fr F w w3) := fun w2 w3 g1 g2 => g1.trans g2 (fun i k => .inl k)
  have hcw : IntKind.i64.wrap ((X.sc : Int) + 1) = (X.sc : Int) + 1 := IntWalk.i64_in _ (by omega)
  have KE : Hid (∀ w2 wf, QI q z { X with A := l, sc := X.sc + 1 } (m + 1) w2 F → wf = (((w2.setCell ⟨q.fb, v * 4, none⟩ (.int .u32 (zF.id : Nat))).setCell ⟨q.fb, v * 4 + 1, none⟩ (.int .u64 (zF.val : Nat))).setCell ⟨q.fb, v * 4 + 2, none⟩ (.int .i64 (zF.pins : Nat))).setCell ⟨q.fb, v * 4 + 3, none⟩ (.bool zF.dirty) → Led (QI q z { X with A := l, sc := X.sc + 1, f := upd X.f v zF } (m + 3)) F w2 wf) := fun w2 wf h hw => (h.wipe hvn (x := zF) ⟨by decide, by decide, by show 0 ≤ m + 1; omega⟩ hw).mono (fun F' h => h.more (by omega))
  have hscn : X.sc < 900000 := by omega
  have cpa := (H.cf hx).2.2.1
  have hgt : decide (((X.f a).pins : Int) > 0) = true := decide_eq_true (by omega)
  have hgt2 : decide (0 < ((X.f a).pins : Int)) = true := decide_eq_true (by omega)
  have hgt3 : decide (0 < (X.f a).pins) = true := decide_eq_true (by omega)
  have hgt4 : 0 < (X.f a).pins := by omega
  have hgt5 : (0 : Int) < ((X.f a).pins : Int) := by omega
  have hxd : decide ((a : Int) < 0) = false := by simp
  have hxe : decide ((a : Int) ≥ (q.n : Int)) = false := decide_eq_false (by omega)
  have hxf : decide ((q.n : Int) ≤ (a : Int)) = false := decide_eq_false (by omega)
  have HH := Lib.hid H
  have hid' : ∀ (w2 : World), True := fun _ => trivial
  clear hid'
  generalize (X.f v).id = xi at *
  generalize (X.f v).val = xv at *
  generalize (X.f v).pins = xp at *
  rw [hd] at KW
  unfold QQ.ptr at *
  clear H hI hem HE hbv hd hv hp
  unfold maxLen at u2
  have HU2 := Lib.hid u2
  clear u2
  by_cases hc : c = 1
  · subst hc
    have hl0 : l.length = 0 := by omega
    rw [hl0] at c2 HKP
    go_enter Tryz.func62, Tryz.ntmps62
    go_wp2_with fail
    refine HC.out.mono ?_
    rintro e w1 ⟨rfl, rfl⟩
    go_wp2_with fail
    refine (KF.out _ (KS.out _ (HKP.out _ (.inl ⟨by first | rfl | trivial, by first | rfl | trivial⟩)).1).1 (KG.out _ _ (HKP.out _ (.inl ⟨by first | rfl | trivial, by first | rfl | trivial⟩)).2 (KS.out _ (HKP.out _ (.inl ⟨by first | rfl | trivial, by first | rfl | trivial⟩)).1).2)).mono ?_
    rintro e w2 ⟨rfl, hy, gy⟩
    obtain ⟨x0, x1, x2, x3, ⟨y0, y1, y2, y3⟩, x4, x5⟩ := KW.out w2 hy
    have z0 := x4 (v * 4)
    have z1 := x4 (v * 4 + 1)
    have z2 := x4 (v * 4 + 2)
    have z3 := x4 (v * 4 + 3)
    have GY := Lib.hid gy
    have HY := Lib.hid hy
    clear gy x4
    have hA2 : Fr NoF w2 (w2.alloc (.cells #[.int .u32 xi, .int .u64 xv, .int .i64 xp, .bool false] 94)) := (Fr.refl NoF w2).alloc _
    have hq3 := KN.out w2 _ hy hA2
    have HQ3 := Lib.hid hq3
    have HA2 := Lib.hid hA2
    obtain ⟨a0, a1, a2, a3, ⟨b0, b1, b2, b3⟩, a4, a5⟩ := KW.out _ hq3
    have f0 := a4 (v * 4)
    have f1 := a4 (v * 4 + 1)
    have f2 := a4 (v * 4 + 2)
    have f3 := a4 (v * 4 + 3)
    have bx : Blk (w2.alloc (.cells #[.int .u32 xi, .int .u64 xv, .int .i64 xp, .bool false] 94)) w2.heap.size 4 (fun i => if i = 0 then .int .u32 xi else if i = 1 then .int .u64 xv else if i = 2 then .int .i64 xp else .bool false) := Blk.new w2 #[.int .u32 xi, .int .u64 xv, .int .i64 xp, .bool false] 94 4 _ _ rfl rfl (fun i hi => by
      match i, hi with
      | 0, _ => rfl
      | 1, _ => rfl
      | 2, _ => rfl
      | 3, _ => rfl)
    have g0 := bx.cell (i := 0) (by omega)
    have g1 := bx.cell (i := 1) (by omega)
    have g3 := bx.cell (i := 3) (by omega)
    have gl := bx.lt
    simp only [Nat.reduceEqDiff, if_true, if_false] at g0 g1 g3
    clear a4 hy hq3 hA2 bx
    go_upto_region 16 with fail
    generalize (w2.alloc (.cells #[.int .u32 xi, .int .u64 xv, .int .i64 xp, .bool false] 94)) = w3 at *
    go_wp2
    go_returns
    refine ⟨rfl, ?_⟩
    exact Led.trans (R := fun _ _ => True) GY.out (fun i k => .inl k) (Led.trans (R := fun _ _ => True) (HA2.out.mono (fun _ k => k.elim)) (fun i k => .inl k) (KE.out _ _ HQ3.out rfl))
  · have hc2 : 1 < c := by omega
    go_enter Tryz.func62, Tryz.ntmps62
    go_wp2_with fail
    refine HC.out.mono ?_
    rintro e w1 ⟨rfl, rfl⟩
    go_wp2_with fail
    refine (KF.out _ (KS.out _ (HKP.out _ (.inr ⟨by first | rfl | (congr 1 <;> omega), hc⟩)).1).1 (KG.out _ _ (HKP.out _ (.inr ⟨by first | rfl | (congr 1 <;> omega), hc⟩)).2 (KS.out _ (HKP.out _ (.inr ⟨by first | rfl | (congr 1 <;> omega), hc⟩)).1).2)).mono ?_
    rintro e w2 ⟨rfl, hy, gy⟩
    obtain ⟨x0, x1, x2, x3, ⟨y0, y1, y2, y3⟩, x4, x5⟩ := KW.out w2 hy
    have z0 := x4 (v * 4)
    have z1 := x4 (v * 4 + 1)
    have z2 := x4 (v * 4 + 2)
    have z3 := x4 (v * 4 + 3)
    have GY := Lib.hid gy
    have HY := Lib.hid hy
    clear gy x4
    have hA2 : Fr NoF w2 (w2.alloc (.cells #[.int .u32 xi, .int .u64 xv, .int .i64 xp, .bool false] 94)) := (Fr.refl NoF w2).alloc _
    have hq3 := KN.out w2 _ hy hA2
    have HQ3 := Lib.hid hq3
    have HA2 := Lib.hid hA2
    obtain ⟨a0, a1, a2, a3, ⟨b0, b1, b2, b3⟩, a4, a5⟩ := KW.out _ hq3
    have f0 := a4 (v * 4)
    have f1 := a4 (v * 4 + 1)
    have f2 := a4 (v * 4 + 2)
    have f3 := a4 (v * 4 + 3)
    have bx : Blk (w2.alloc (.cells #[.int .u32 xi, .int .u64 xv, .int .i64 xp, .bool false] 94)) w2.heap.size 4 (fun i => if i = 0 then .int .u32 xi else if i = 1 then .int .u64 xv else if i = 2 then .int .i64 xp else .bool false) := Blk.new w2 #[.int .u32 xi, .int .u64 xv, .int .i64 xp, .bool false] 94 4 _ _ rfl rfl (fun i hi => by
      match i, hi with
      | 0, _ => rfl
      | 1, _ => rfl
      | 2, _ => rfl
      | 3, _ => rfl)
    have g0 := bx.cell (i := 0) (by omega)
    have g1 := bx.cell (i := 1) (by omega)
    have g3 := bx.cell (i := 3) (by omega)
    have gl := bx.lt
    simp only [Nat.reduceEqDiff, if_true, if_false] at g0 g1 g3
    clear a4 hy hq3 hA2 bx
    go_upto_region 16 with fail
    generalize (w2.alloc (.cells #[.int .u32 xi, .int .u64 xv, .int .i64 xp, .bool false] 94)) = w3 at *
    go_wp2
    go_returns
    refine ⟨rfl, ?_⟩
    exact Led.trans (R := fun _ _ => True) GY.out (fun i k => .inl k) (Led.trans (R := fun _ _ => True) (HA2.out.mono (fun _ k => k.elim)) (fun i k => .inl k) (KE.out _ _ HQ3.out rfl))
set_option maxHeartbeats 4000000 in
theorem room_pin_wrote (H : QI q z X m w F) (hI : Inv q.n X.f X.D) (hm : m < 70000) (hem : fstB q.n (emB q.n X.f) = none) {a : Nat} (hA : X.A = (a : Int) :: l) (hx : a < q.n) (hp : ¬ (X.f a).pins = 0) {v : Nat} (hv : fstB q.n (idB q.n X.f) = some v) (hd : (X.f v).dirty = true) (he0 : (X.D.write (X.f v).id (X.f v).val).1 = 0) : Calls Tryz.prog 62 #[q.ptr] w fun e w' => e = .returned (.tuple #[.int .i64 v, .int .i64 0]) ∧ Led (QI q z { X with A := l, sc := X.sc + 1, f := upd X.f v zF, D := (X.D.write (X.f v).id (X.f v).val).2 } (m + 3)) F w w' := by
  have HE := H.freeT hI
  rw [hem, show plZ none = -1 from rfl] at HE
  have HC := Lib.hid HE
  obtain ⟨_, c1, lb, lf⟩ := H.c
  obtain ⟨hd1, hd2⟩ := H.d1
  obtain ⟨c3, hsc⟩ := H.ch
  have hz2 := H.fzh 2
  have hz3 := H.fzh 3
  have hn := H.hn
  obtain ⟨b, off, c, c2, u1, u2, u3, u4, KP⟩ := H.pop hA
  have HKP := Lib.hid KP
  clear KP
  have hvn : v < q.n := (fstB_some hv).1
  have hbv := H.bdk v
  have KW : Hid (∀ w2, QI q z { X with A := l, sc := X.sc + 1 } (m + 1) w2 F → w2.cell? ⟨q.pb, 0, none⟩ = some (.pointer (some ⟨q.rb, 0, none⟩)) ∧ w2.cell? ⟨q.pb, 1, none⟩ = some (.slice (some ⟨q.fb, 0, none⟩) q.n q.n) ∧ q.pb < w2.heap.size ∧ q.fb < w2.heap.size ∧ (w2.cell? ⟨q.fb, v * 4, none⟩ = some (.int .u32 (X.f v).id) ∧ w2.cell? ⟨q.fb, v * 4 + 1, none⟩ = some (.int .u64 (X.f v).val) ∧ w2.cell? ⟨q.fb, v * 4 + 2, none⟩ = some (.int .i64 (X.f v).pins) ∧ w2.cell? ⟨q.fb, v * 4 + 3, none⟩ = some (.bool (X.f v).dirty)) ∧ (∀ i, w2.frozen? ⟨q.fb, i, none⟩ = false) ∧ ∀ i, F i → i < w2.heap.size) := fun w2 h => ⟨h.c.1, h.c.2.1, h.c.2.2.1, h.c.2.2.2, h.cf hvn, h.fz, h.lt⟩
  have KN : Hid (∀ w2 w3, QI q z { X with A := l, sc := X.sc + 1 } (m + 1) w2 F → Fr NoF w2 w3 → QI q z { X with A := l, sc := X.sc + 1 } (m + 1) w3 F) := fun w2 w3 h g => h.fr0 g
  have KF : Hid (∀ w2, QI q z { X with A := l, sc := X.sc + 1 } (m + 1) w2 F → Fr F w w2 → Calls Tryz.prog 90 #[q.ptr, .bool false] w2 fun e w' => e = .returned (.int .i64 v) ∧ QI q z { X with A := l, sc := X.sc + 1 } (m + 1) w' F ∧ Fr F w w') := fun w2 h g => by
    have := h.freeF
    rw [show ({ X with A := l, sc := X.sc + 1 } : PS (List Int)).f = X.f from rfl, hv] at this
    refine this.mono ?_
    rintro e w' ⟨he, rfl⟩
    exact ⟨he, h, g⟩
  have KS : Hid (∀ w2, QI q z { X with A := l } m w2 F → QI q z { X with A := l, sc := X.sc + 1 } (m + 1) (w2.setCell ⟨q.pb, 3, none⟩ (.int .i64 ((X.sc : Int) + 1))) F ∧ Fr F w2 (w2.setCell ⟨q.pb, 3, none⟩ (.int .i64 ((X.sc : Int) + 1)))) := fun w2 h => h.scan
  have KG : Hid (∀ w2 w3, Fr F w w2 → Fr F w2 w3 → Fr F w w3) := fun w2 w3 g1 g2 => g1.trans g2 (fun i k => .inl k)
  have hcw : IntKind.i64.wrap ((X.sc : Int) + 1) = (X.sc : Int) + 1 := IntWalk.i64_in _ (by omega)
  have KD : Hid (∀ w2, QI q z { X with A := l, sc := X.sc + 1 } (m + 1) w2 F → Calls Tryz.prog 67 #[.pointer (some ⟨q.rb, 0, none⟩), .int .u32 (X.f v).id, .int .u64 (X.f v).val] w2 fun e w' => e = .returned (.int .i64 (X.D.write (X.f v).id (X.f v).val).1) ∧ Led (QI q z { X with A := l, sc := X.sc + 1, D := (X.D.write (X.f v).id (X.f v).val).2 } (m + 2)) F w2 w') := fun w2 h => h.dwrite (by omega) _ hbv.2.1
  have KE : Hid (∀ w2 F2 wf, QI q z { X with A := l, sc := X.sc + 1, D := (X.D.write (X.f v).id (X.f v).val).2 } (m + 2) w2 F2 → wf = (((w2.setCell ⟨q.fb, v * 4, none⟩ (.int .u32 (zF.id : Nat))).setCell ⟨q.fb, v * 4 + 1, none⟩ (.int .u64 (zF.val : Nat))).setCell ⟨q.fb, v * 4 + 2, none⟩ (.int .i64 (zF.pins : Nat))).setCell ⟨q.fb, v * 4 + 3, none⟩ (.bool zF.dirty) → Led (QI q z { X with A := l, sc := X.sc + 1, f := upd X.f v zF, D := (X.D.write (X.f v).id (X.f v).val).2 } (m + 3)) F2 w2 wf) := fun w2 F2 wf h hw => (h.wipe hvn (x := zF) ⟨by decide, by decide, by show 0 ≤ m + 2; omega⟩ hw).mono (fun F' h => h.more (by omega))
  have KX : Hid (∀ w2 F2, QI q z { X with A := l, sc := X.sc + 1, D := (X.D.write (X.f v).id (X.f v).val).2 } (m + 2) w2 F2 → w2.cell? ⟨q.pb, 1, none⟩ = some (.slice (some ⟨q.fb, 0, none⟩) q.n q.n) ∧ q.pb < w2.heap.size ∧ q.fb < w2.heap.size ∧ (w2.cell? ⟨q.fb, v * 4, none⟩ = some (.int .u32 (X.f v).id) ∧ w2.cell? ⟨q.fb, v * 4 + 1, none⟩ = some (.int .u64 (X.f v).val) ∧ w2.cell? ⟨q.fb, v * 4 + 2, none⟩ = some (.int .i64 (X.f v).pins) ∧ w2.cell? ⟨q.fb, v * 4 + 3, none⟩ = some (.bool (X.f v).dirty)) ∧ (∀ i, w2.frozen? ⟨q.fb, i, none⟩ = false)) := fun w2 F2 h => ⟨h.c.2.1, h.c.2.2.1, h.c.2.2.2, h.cf hvn, h.fz⟩
  have hscn : X.sc < 900000 := by omega
  have cpa := (H.cf hx).2.2.1
  have hgt : decide (((X.f a).pins : Int) > 0) = true := decide_eq_true (by omega)
  have hgt2 : decide (0 < ((X.f a).pins : Int)) = true := decide_eq_true (by omega)
  have hgt3 : decide (0 < (X.f a).pins) = true := decide_eq_true (by omega)
  have hgt4 : 0 < (X.f a).pins := by omega
  have hgt5 : (0 : Int) < ((X.f a).pins : Int) := by omega
  have hxd : decide ((a : Int) < 0) = false := by simp
  have hxe : decide ((a : Int) ≥ (q.n : Int)) = false := decide_eq_false (by omega)
  have hxf : decide ((q.n : Int) ≤ (a : Int)) = false := decide_eq_false (by omega)
  have HH := Lib.hid H
  have hid' : ∀ (w2 : World), True := fun _ => trivial
  clear hid'
  generalize (X.f v).id = xi at *
  generalize (X.f v).val = xv at *
  generalize (X.f v).pins = xp at *
  rw [hd] at KW KX
  generalize hww : X.D.write xi xv = R at *
  obtain ⟨er, D2⟩ := R
  dsimp only at *
  clear hww
  subst he0
  unfold QQ.ptr at *
  clear H hI hem HE hbv hd hv hp
  unfold maxLen at u2
  have HU2 := Lib.hid u2
  clear u2
  by_cases hc : c = 1
  · subst hc
    have hl0 : l.length = 0 := by omega
    rw [hl0] at c2 HKP
    go_enter Tryz.func62, Tryz.ntmps62
    go_wp2_with fail
    refine HC.out.mono ?_
    rintro e w1 ⟨rfl, rfl⟩
    go_wp2_with fail
    refine (KF.out _ (KS.out _ (HKP.out _ (.inl ⟨by first | rfl | trivial, by first | rfl | trivial⟩)).1).1 (KG.out _ _ (HKP.out _ (.inl ⟨by first | rfl | trivial, by first | rfl | trivial⟩)).2 (KS.out _ (HKP.out _ (.inl ⟨by first | rfl | trivial, by first | rfl | trivial⟩)).1).2)).mono ?_
    rintro e w2 ⟨rfl, hy, gy⟩
    obtain ⟨x0, x1, x2, x3, ⟨y0, y1, y2, y3⟩, x4, x5⟩ := KW.out w2 hy
    have z0 := x4 (v * 4)
    have z1 := x4 (v * 4 + 1)
    have z2 := x4 (v * 4 + 2)
    have z3 := x4 (v * 4 + 3)
    have GY := Lib.hid gy
    have HY := Lib.hid hy
    clear gy x4
    have hA2 : Fr NoF w2 (w2.alloc (.cells #[.int .u32 xi, .int .u64 xv, .int .i64 xp, .bool true] 94)) := (Fr.refl NoF w2).alloc _
    have hq3 := KN.out w2 _ hy hA2
    have HQ3 := Lib.hid hq3
    have HA2 := Lib.hid hA2
    obtain ⟨a0, a1, a2, a3, ⟨b0, b1, b2, b3⟩, a4, a5⟩ := KW.out _ hq3
    have f0 := a4 (v * 4)
    have f1 := a4 (v * 4 + 1)
    have f2 := a4 (v * 4 + 2)
    have f3 := a4 (v * 4 + 3)
    have bx : Blk (w2.alloc (.cells #[.int .u32 xi, .int .u64 xv, .int .i64 xp, .bool true] 94)) w2.heap.size 4 (fun i => if i = 0 then .int .u32 xi else if i = 1 then .int .u64 xv else if i = 2 then .int .i64 xp else .bool true) := Blk.new w2 #[.int .u32 xi, .int .u64 xv, .int .i64 xp, .bool true] 94 4 _ _ rfl rfl (fun i hi => by
      match i, hi with
      | 0, _ => rfl
      | 1, _ => rfl
      | 2, _ => rfl
      | 3, _ => rfl)
    have g0 := bx.cell (i := 0) (by omega)
    have g1 := bx.cell (i := 1) (by omega)
    have g3 := bx.cell (i := 3) (by omega)
    have gl := bx.lt
    simp only [Nat.reduceEqDiff, if_true, if_false] at g0 g1 g3
    clear a4 hy hq3 hA2 bx
    go_wp2_with fail
    generalize (w2.alloc (.cells #[.int .u32 xi, .int .u64 xv, .int .i64 xp, .bool true] 94)) = w3 at *
    go_still_tail 8, (by kernel_rfl)
    go_wp2_with fail
    refine (KD.out _ (KN.out _ _ HQ3.out ((Fr.refl NoF w3).drew))).mono ?_
    rintro e w4 ⟨rfl, F4, h4, k4, j4⟩
    obtain ⟨m1, m2, m3, ⟨n0, n1, n2, n3⟩, m4⟩ := KX.out _ _ h4
    have r0 := m4 (v * 4)
    have r1 := m4 (v * 4 + 1)
    have r2 := m4 (v * 4 + 2)
    have r3 := m4 (v * 4 + 3)
    have H4 := Lib.hid h4
    have K4 := Lib.hid k4
    have J4 := Lib.hid j4
    clear h4 k4 j4 m4
    go_wp2
    go_returns
    exact ⟨rfl, Led.trans (R := fun _ _ => True) GY.out (fun i k => .inl k) (Led.trans (R := fun _ _ => True) (HA2.out.mono (fun _ k => k.elim)) (fun i k => .inl k) (Led.trans (R := fun _ _ => True) ((Fr.refl F w3).drew) (fun i k => .inl k) (Led.trans (R := fun _ _ => True) K4.out J4.out (KE.out _ _ _ H4.out rfl))))⟩
  · have hc2 : 1 < c := by omega
    go_enter Tryz.func62, Tryz.ntmps62
    go_wp2_with fail
    refine HC.out.mono ?_
    rintro e w1 ⟨rfl, rfl⟩
    go_wp2_with fail
    refine (KF.out _ (KS.out _ (HKP.out _ (.inr ⟨by first | rfl | (congr 1 <;> omega), hc⟩)).1).1 (KG.out _ _ (HKP.out _ (.inr ⟨by first | rfl | (congr 1 <;> omega), hc⟩)).2 (KS.out _ (HKP.out _ (.inr ⟨by first | rfl | (congr 1 <;> omega), hc⟩)).1).2)).mono ?_
    rintro e w2 ⟨rfl, hy, gy⟩
    obtain ⟨x0, x1, x2, x3, ⟨y0, y1, y2, y3⟩, x4, x5⟩ := KW.out w2 hy
    have z0 := x4 (v * 4)
    have z1 := x4 (v * 4 + 1)
    have z2 := x4 (v * 4 + 2)
    have z3 := x4 (v * 4 + 3)
    have GY := Lib.hid gy
    have HY := Lib.hid hy
    clear gy x4
    have hA2 : Fr NoF w2 (w2.alloc (.cells #[.int .u32 xi, .int .u64 xv, .int .i64 xp, .bool true] 94)) := (Fr.refl NoF w2).alloc _
    have hq3 := KN.out w2 _ hy hA2
    have HQ3 := Lib.hid hq3
    have HA2 := Lib.hid hA2
    obtain ⟨a0, a1, a2, a3, ⟨b0, b1, b2, b3⟩, a4, a5⟩ := KW.out _ hq3
    have f0 := a4 (v * 4)
    have f1 := a4 (v * 4 + 1)
    have f2 := a4 (v * 4 + 2)
    have f3 := a4 (v * 4 + 3)
    have bx : Blk (w2.alloc (.cells #[.int .u32 xi, .int .u64 xv, .int .i64 xp, .bool true] 94)) w2.heap.size 4 (fun i => if i = 0 then .int .u32 xi else if i = 1 then .int .u64 xv else if i = 2 then .int .i64 xp else .bool true) := Blk.new w2 #[.int .u32 xi, .int .u64 xv, .int .i64 xp, .bool true] 94 4 _ _ rfl rfl (fun i hi => by
      match i, hi with
      | 0, _ => rfl
      | 1, _ => rfl
      | 2, _ => rfl
      | 3, _ => rfl)
    have g0 := bx.cell (i := 0) (by omega)
    have g1 := bx.cell (i := 1) (by omega)
    have g3 := bx.cell (i := 3) (by omega)
    have gl := bx.lt
    simp only [Nat.reduceEqDiff, if_true, if_false] at g0 g1 g3
    clear a4 hy hq3 hA2 bx
    go_wp2_with fail
    generalize (w2.alloc (.cells #[.int .u32 xi, .int .u64 xv, .int .i64 xp, .bool true] 94)) = w3 at *
    go_still_tail 8, (by kernel_rfl)
    go_wp2_with fail
    refine (KD.out _ (KN.out _ _ HQ3.out ((Fr.refl NoF w3).drew))).mono ?_
    rintro e w4 ⟨rfl, F4, h4, k4, j4⟩
    obtain ⟨m1, m2, m3, ⟨n0, n1, n2, n3⟩, m4⟩ := KX.out _ _ h4
    have r0 := m4 (v * 4)
    have r1 := m4 (v * 4 + 1)
    have r2 := m4 (v * 4 + 2)
    have r3 := m4 (v * 4 + 3)
    have H4 := Lib.hid h4
    have K4 := Lib.hid k4
    have J4 := Lib.hid j4
    clear h4 k4 j4 m4
    go_wp2
    go_returns
    exact ⟨rfl, Led.trans (R := fun _ _ => True) GY.out (fun i k => .inl k) (Led.trans (R := fun _ _ => True) (HA2.out.mono (fun _ k => k.elim)) (fun i k => .inl k) (Led.trans (R := fun _ _ => True) ((Fr.refl F w3).drew) (fun i k => .inl k) (Led.trans (R := fun _ _ => True) K4.out J4.out (KE.out _ _ _ H4.out rfl))))⟩
set_option maxHeartbeats 4000000 in
theorem room_pin_err (H : QI q z X m w F) (hI : Inv q.n X.f X.D) (hm : m < 70000) (hem : fstB q.n (emB q.n X.f) = none) {a : Nat} (hA : X.A = (a : Int) :: l) (hx : a < q.n) (hp : ¬ (X.f a).pins = 0) {v : Nat} (hv : fstB q.n (idB q.n X.f) = some v) (hd : (X.f v).dirty = true) (he0 : ¬ (X.D.write (X.f v).id (X.f v).val).1 = 0) : Calls Tryz.prog 62 #[q.ptr] w fun e w' => e = .returned (.tuple #[.int .i64 (-1), .int .i64 (X.D.write (X.f v).id (X.f v).val).1]) ∧ Led (QI q z { X with A := l, sc := X.sc + 1, D := (X.D.write (X.f v).id (X.f v).val).2 } (m + 3)) F w w' := by
  have HE := H.freeT hI
  rw [hem, show plZ none = -1 from rfl] at HE
  have HC := Lib.hid HE
  obtain ⟨_, c1, lb, lf⟩ := H.c
  obtain ⟨hd1, hd2⟩ := H.d1
  obtain ⟨c3, hsc⟩ := H.ch
  have hz2 := H.fzh 2
  have hz3 := H.fzh 3
  have hn := H.hn
  obtain ⟨b, off, c, c2, u1, u2, u3, u4, KP⟩ := H.pop hA
  have HKP := Lib.hid KP
  clear KP
  have hvn : v < q.n := (fstB_some hv).1
  have hbv := H.bdk v
  have KW : Hid (∀ w2, QI q z { X with A := l, sc := X.sc + 1 } (m + 1) w2 F → w2.cell? ⟨q.pb, 0, none⟩ = some (.pointer (some ⟨q.rb, 0, none⟩)) ∧ w2.cell? ⟨q.pb, 1, none⟩ = some (.slice (some ⟨q.fb, 0, none⟩) q.n q.n) ∧ q.pb < w2.heap.size ∧ q.fb < w2.heap.size ∧ (w2.cell? ⟨q.fb, v * 4, none⟩ = some (.int .u32 (X.f v).id) ∧ w2.cell? ⟨q.fb, v * 4 + 1, none⟩ = some (.int .u64 (X.f v).val) ∧ w2.cell? ⟨q.fb, v * 4 + 2, none⟩ = some (.int .i64 (X.f v).pins) ∧ w2.cell? ⟨q.fb, v * 4 + 3, none⟩ = some (.bool (X.f v).dirty)) ∧ (∀ i, w2.frozen? ⟨q.fb, i, none⟩ = false) ∧ ∀ i, F i → i < w2.heap.size) := fun w2 h => ⟨h.c.1, h.c.2.1, h.c.2.2.1, h.c.2.2.2, h.cf hvn, h.fz, h.lt⟩
  have KN : Hid (∀ w2 w3, QI q z { X with A := l, sc := X.sc + 1 } (m + 1) w2 F → Fr NoF w2 w3 → QI q z { X with A := l, sc := X.sc + 1 } (m + 1) w3 F) := fun w2 w3 h g => h.fr0 g
  have KF : Hid (∀ w2, QI q z { X with A := l, sc := X.sc + 1 } (m + 1) w2 F → Fr F w w2 → Calls Tryz.prog 90 #[q.ptr, .bool false] w2 fun e w' => e = .returned (.int .i64 v) ∧ QI q z { X with A := l, sc := X.sc + 1 } (m + 1) w' F ∧ Fr F w w') := fun w2 h g => by
    have := h.freeF
    rw [show ({ X with A := l, sc := X.sc + 1 } : PS (List Int)).f = X.f from rfl, hv] at this
    refine this.mono ?_
    rintro e w' ⟨he, rfl⟩
    exact ⟨he, h, g⟩
  have KS : Hid (∀ w2, QI q z { X with A := l } m w2 F → QI q z { X with A := l, sc := X.sc + 1 } (m + 1) (w2.setCell ⟨q.pb, 3, none⟩ (.int .i64 ((X.sc : Int) + 1))) F ∧ Fr F w2 (w2.setCell ⟨q.pb, 3, none⟩ (.int .i64 ((X.sc : Int) + 1)))) := fun w2 h => h.scan
  have KG : Hid (∀ w2 w3, Fr F w w2 → Fr F w2 w3 → Fr F w w3) := fun w2 w3 g1 g2 => g1.trans g2 (fun i k => .inl k)
  have hcw : IntKind.i64.wrap ((X.sc : Int) + 1) = (X.sc : Int) + 1 := IntWalk.i64_in _ (by omega)
  have KD : Hid (∀ w2, QI q z { X with A := l, sc := X.sc + 1 } (m + 1) w2 F → Calls Tryz.prog 67 #[.pointer (some ⟨q.rb, 0, none⟩), .int .u32 (X.f v).id, .int .u64 (X.f v).val] w2 fun e w' => e = .returned (.int .i64 (X.D.write (X.f v).id (X.f v).val).1) ∧ Led (QI q z { X with A := l, sc := X.sc + 1, D := (X.D.write (X.f v).id (X.f v).val).2 } (m + 2)) F w2 w') := fun w2 h => h.dwrite (by omega) _ hbv.2.1
  have KM : Hid (∀ w2 F2, QI q z { X with A := l, sc := X.sc + 1, D := (X.D.write (X.f v).id (X.f v).val).2 } (m + 2) w2 F2 → QI q z { X with A := l, sc := X.sc + 1, D := (X.D.write (X.f v).id (X.f v).val).2 } (m + 3) w2 F2) := fun w2 F2 h => h.more (by omega)
  have hscn : X.sc < 900000 := by omega
  have cpa := (H.cf hx).2.2.1
  have hgt : decide (((X.f a).pins : Int) > 0) = true := decide_eq_true (by omega)
  have hgt2 : decide (0 < ((X.f a).pins : Int)) = true := decide_eq_true (by omega)
  have hgt3 : decide (0 < (X.f a).pins) = true := decide_eq_true (by omega)
  have hgt4 : 0 < (X.f a).pins := by omega
  have hgt5 : (0 : Int) < ((X.f a).pins : Int) := by omega
  have hxd : decide ((a : Int) < 0) = false := by simp
  have hxe : decide ((a : Int) ≥ (q.n : Int)) = false := decide_eq_false (by omega)
  have hxf : decide ((q.n : Int) ≤ (a : Int)) = false := decide_eq_false (by omega)
  have HH := Lib.hid H
  have hid' : ∀ (w2 : World), True := fun _ => trivial
  clear hid'
  generalize (X.f v).id = xi at *
  generalize (X.f v).val = xv at *
  generalize (X.f v).pins = xp at *
  rw [hd] at KW
  generalize hww : X.D.write xi xv = R at *
  obtain ⟨er, D2⟩ := R
  dsimp only at *
  clear hww
  have hne : (((er : Nat) : Int) == 0) = false := by simp <;> exact he0
  unfold QQ.ptr at *
  clear H hI hem HE hbv hd hv he0 hp
  unfold maxLen at u2
  have HU2 := Lib.hid u2
  clear u2
  by_cases hc : c = 1
  · subst hc
    have hl0 : l.length = 0 := by omega
    rw [hl0] at c2 HKP
    go_enter Tryz.func62, Tryz.ntmps62
    go_wp2_with fail
    refine HC.out.mono ?_
    rintro e w1 ⟨rfl, rfl⟩
    go_wp2_with fail
    refine (KF.out _ (KS.out _ (HKP.out _ (.inl ⟨by first | rfl | trivial, by first | rfl | trivial⟩)).1).1 (KG.out _ _ (HKP.out _ (.inl ⟨by first | rfl | trivial, by first | rfl | trivial⟩)).2 (KS.out _ (HKP.out _ (.inl ⟨by first | rfl | trivial, by first | rfl | trivial⟩)).1).2)).mono ?_
    rintro e w2 ⟨rfl, hy, gy⟩
    obtain ⟨x0, x1, x2, x3, ⟨y0, y1, y2, y3⟩, x4, x5⟩ := KW.out w2 hy
    have z0 := x4 (v * 4)
    have z1 := x4 (v * 4 + 1)
    have z2 := x4 (v * 4 + 2)
    have z3 := x4 (v * 4 + 3)
    have GY := Lib.hid gy
    have HY := Lib.hid hy
    clear gy x4
    have hA2 : Fr NoF w2 (w2.alloc (.cells #[.int .u32 xi, .int .u64 xv, .int .i64 xp, .bool true] 94)) := (Fr.refl NoF w2).alloc _
    have hq3 := KN.out w2 _ hy hA2
    have HQ3 := Lib.hid hq3
    have HA2 := Lib.hid hA2
    obtain ⟨a0, a1, a2, a3, ⟨b0, b1, b2, b3⟩, a4, a5⟩ := KW.out _ hq3
    have f0 := a4 (v * 4)
    have f1 := a4 (v * 4 + 1)
    have f2 := a4 (v * 4 + 2)
    have f3 := a4 (v * 4 + 3)
    have bx : Blk (w2.alloc (.cells #[.int .u32 xi, .int .u64 xv, .int .i64 xp, .bool true] 94)) w2.heap.size 4 (fun i => if i = 0 then .int .u32 xi else if i = 1 then .int .u64 xv else if i = 2 then .int .i64 xp else .bool true) := Blk.new w2 #[.int .u32 xi, .int .u64 xv, .int .i64 xp, .bool true] 94 4 _ _ rfl rfl (fun i hi => by
      match i, hi with
      | 0, _ => rfl
      | 1, _ => rfl
      | 2, _ => rfl
      | 3, _ => rfl)
    have g0 := bx.cell (i := 0) (by omega)
    have g1 := bx.cell (i := 1) (by omega)
    have g3 := bx.cell (i := 3) (by omega)
    have gl := bx.lt
    simp only [Nat.reduceEqDiff, if_true, if_false] at g0 g1 g3
    clear a4 hy hq3 hA2 bx
    go_wp2_with fail
    generalize (w2.alloc (.cells #[.int .u32 xi, .int .u64 xv, .int .i64 xp, .bool true] 94)) = w3 at *
    go_still_tail 8, (by kernel_rfl)
    go_wp2_with fail
    refine (KD.out _ (KN.out _ _ HQ3.out ((Fr.refl NoF w3).drew))).mono ?_
    rintro e w4 ⟨rfl, F4, h4, k4, j4⟩
    have H4 := Lib.hid (KM.out _ _ h4)
    have K4 := Lib.hid k4
    have J4 := Lib.hid j4
    clear h4 k4 j4
    go_wp2
    go_returns
    exact ⟨rfl, Led.trans (R := fun _ _ => True) GY.out (fun i k => .inl k) (Led.trans (R := fun _ _ => True) (HA2.out.mono (fun _ k => k.elim)) (fun i k => .inl k) (Led.trans (R := fun _ _ => True) ((Fr.refl F w3).drew) (fun i k => .inl k) ⟨F4, H4.out, K4.out, J4.out⟩))⟩
  · have hc2 : 1 < c := by omega
    go_enter Tryz.func62, Tryz.ntmps62
    go_wp2_with fail
    refine HC.out.mono ?_
    rintro e w1 ⟨rfl, rfl⟩
    go_wp2_with fail
    refine (KF.out _ (KS.out _ (HKP.out _ (.inr ⟨by first | rfl | (congr 1 <;> omega), hc⟩)).1).1 (KG.out _ _ (HKP.out _ (.inr ⟨by first | rfl | (congr 1 <;> omega), hc⟩)).2 (KS.out _ (HKP.out _ (.inr ⟨by first | rfl | (congr 1 <;> omega), hc⟩)).1).2)).mono ?_
    rintro e w2 ⟨rfl, hy, gy⟩
    obtain ⟨x0, x1, x2, x3, ⟨y0, y1, y2, y3⟩, x4, x5⟩ := KW.out w2 hy
    have z0 := x4 (v * 4)
    have z1 := x4 (v * 4 + 1)
    have z2 := x4 (v * 4 + 2)
    have z3 := x4 (v * 4 + 3)
    have GY := Lib.hid gy
    have HY := Lib.hid hy
    clear gy x4
    have hA2 : Fr NoF w2 (w2.alloc (.cells #[.int .u32 xi, .int .u64 xv, .int .i64 xp, .bool true] 94)) := (Fr.refl NoF w2).alloc _
    have hq3 := KN.out w2 _ hy hA2
    have HQ3 := Lib.hid hq3
    have HA2 := Lib.hid hA2
    obtain ⟨a0, a1, a2, a3, ⟨b0, b1, b2, b3⟩, a4, a5⟩ := KW.out _ hq3
    have f0 := a4 (v * 4)
    have f1 := a4 (v * 4 + 1)
    have f2 := a4 (v * 4 + 2)
    have f3 := a4 (v * 4 + 3)
    have bx : Blk (w2.alloc (.cells #[.int .u32 xi, .int .u64 xv, .int .i64 xp, .bool true] 94)) w2.heap.size 4 (fun i => if i = 0 then .int .u32 xi else if i = 1 then .int .u64 xv else if i = 2 then .int .i64 xp else .bool true) := Blk.new w2 #[.int .u32 xi, .int .u64 xv, .int .i64 xp, .bool true] 94 4 _ _ rfl rfl (fun i hi => by
      match i, hi with
      | 0, _ => rfl
      | 1, _ => rfl
      | 2, _ => rfl
      | 3, _ => rfl)
    have g0 := bx.cell (i := 0) (by omega)
    have g1 := bx.cell (i := 1) (by omega)
    have g3 := bx.cell (i := 3) (by omega)
    have gl := bx.lt
    simp only [Nat.reduceEqDiff, if_true, if_false] at g0 g1 g3
    clear a4 hy hq3 hA2 bx
    go_wp2_with fail
    generalize (w2.alloc (.cells #[.int .u32 xi, .int .u64 xv, .int .i64 xp, .bool true] 94)) = w3 at *
    go_still_tail 8, (by kernel_rfl)
    go_wp2_with fail
    refine (KD.out _ (KN.out _ _ HQ3.out ((Fr.refl NoF w3).drew))).mono ?_
    rintro e w4 ⟨rfl, F4, h4, k4, j4⟩
    have H4 := Lib.hid (KM.out _ _ h4)
    have K4 := Lib.hid k4
    have J4 := Lib.hid j4
    clear h4 k4 j4
    go_wp2
    go_returns
    exact ⟨rfl, Led.trans (R := fun _ _ => True) GY.out (fun i k => .inl k) (Led.trans (R := fun _ _ => True) (HA2.out.mono (fun _ k => k.elim)) (fun i k => .inl k) (Led.trans (R := fun _ _ => True) ((Fr.refl F w3).drew) (fun i k => .inl k) ⟨F4, H4.out, K4.out, J4.out⟩))⟩
end
end Go.Proofs.YtnideelidfpicaaGreatDoor
namespace Go.Proofs.YtnideelidfpicaaGreatDoor
open Go.RowKit
set_option linter.unusedVariables false
set_option linter.unusedSimpArgs false
set_option linter.unusedSectionVars false
set_option maxRecDepth 100000
section
variable {w w' : World} {q : QQ} {l : List Int} {m z : Nat} {X : PS (List Int)} {F : Nat → Prop}
set_option maxHeartbeats 4000000 in
theorem room_good_clean (H : QI q z X m w F) (hI : Inv q.n X.f X.D) (hm : m < 70000) (hem : fstB q.n (emB q.n X.f) = none) {v : Nat} (hA : X.A = (v : Int) :: l) (hx : v < q.n) (hp : (X.f v).pins = 0) (hd : (X.f v).dirty = false) : Calls Tryz.prog 62 #[q.ptr] w fun e w' => e = .returned (.tuple #[.int .i64 v, .int .i64 0]) ∧ Led (QI q z { X with A := l, f := upd X.f v zF } (m + 3)) F w w' := by
  have HE := H.freeT hI
  rw [hem, show plZ none = -1 from rfl] at HE
  have HC := Lib.hid HE
  obtain ⟨_, c1, lb, lf⟩ := H.c
  obtain ⟨hd1, hd2⟩ := H.d1
  obtain ⟨c3, hsc⟩ := H.ch
  have hz2 := H.fzh 2
  have hz3 := H.fzh 3
  have hn := H.hn
  obtain ⟨b, off, c, c2, u1, u2, u3, u4, KP⟩ := H.pop hA
  have HKP := Lib.hid KP
  clear KP
  have hvn : v < q.n := hx
  have hbv := H.bdk v
  have KW : Hid (∀ w2, QI q z { X with A := l } (m + 1) w2 F → w2.cell? ⟨q.pb, 0, none⟩ = some (.pointer (some ⟨q.rb, 0, none⟩)) ∧ w2.cell? ⟨q.pb, 1, none⟩ = some (.slice (some ⟨q.fb, 0, none⟩) q.n q.n) ∧ q.pb < w2.heap.size ∧ q.fb < w2.heap.size ∧ (w2.cell? ⟨q.fb, v * 4, none⟩ = some (.int .u32 (X.f v).id) ∧ w2.cell? ⟨q.fb, v * 4 + 1, none⟩ = some (.int .u64 (X.f v).val) ∧ w2.cell? ⟨q.fb, v * 4 + 2, none⟩ = some (.int .i64 (X.f v).pins) ∧ w2.cell? ⟨q.fb, v * 4 + 3, none⟩ = some (.bool (X.f v).dirty)) ∧ (∀ i, w2.frozen? ⟨q.fb, i, none⟩ = false) ∧ ∀ i, F i → i < w2.heap.size) := fun w2 h => ⟨h.c.1, h.c.2.1, h.c.2.2.1, h.c.2.2.2, h.cf hvn, h.fz, h.lt⟩
  have KN : Hid (∀ w2 w3, QI q z { X with A := l } (m + 1) w2 F → Fr NoF w2 w3 → QI q z { X with A := l } (m + 1) w3 F) := fun w2 w3 h g => h.fr0 g
  have KE : Hid (∀ w2 wf, QI q z { X with A := l } (m + 1) w2 F → wf = (((w2.setCell ⟨q.fb, v * 4, none⟩ (.int .u32 (zF.id : Nat))).setCell ⟨q.fb, v * 4 + 1, none⟩ (.int .u64 (zF.val : Nat))).setCell ⟨q.fb, v * 4 + 2, none⟩ (.int .i64 (zF.pins : Nat))).setCell ⟨q.fb, v * 4 + 3, none⟩ (.bool zF.dirty) → Led (QI q z { X with A := l, f := upd X.f v zF } (m + 3)) F w2 wf) := fun w2 wf h hw => (h.wipe hvn (x := zF) ⟨by decide, by decide, by show 0 ≤ m + 1; omega⟩ hw).mono (fun F' h => h.more (by omega))
  have hscn : X.sc < 900000 := by omega
  have cpa := (H.cf hx).2.2.1
  clear cpa
  have hgt : decide (((X.f v).pins : Int) > 0) = false := decide_eq_false (by omega)
  have hgt2 : decide (0 < ((X.f v).pins : Int)) = false := decide_eq_false (by omega)
  have hgt3 : decide (0 < (X.f v).pins) = false := decide_eq_false (by omega)
  have hxd : decide ((v : Int) < 0) = false := by simp
  have hxe : decide ((v : Int) ≥ (q.n : Int)) = false := decide_eq_false (by omega)
  have hxf : decide ((q.n : Int) ≤ (v : Int)) = false := decide_eq_false (by omega)
  have HH := Lib.hid H
  have hid' : ∀ (w2 : World), True := fun _ => trivial
  clear hid'
  generalize (X.f v).id = xi at *
  generalize (X.f v).val = xv at *
  generalize (X.f v).pins = xp at *
  rw [hd] at KW
  unfold QQ.ptr at *
  clear H hI hem HE hbv hd  hp
  unfold maxLen at u2
  have HU2 := Lib.hid u2
  clear u2
  by_cases hc : c = 1
  · subst hc
    have hl0 : l.length = 0 := by omega
    rw [hl0] at c2 HKP
    go_enter Tryz.func62, Tryz.ntmps62
    go_wp2_with fail
    refine HC.out.mono ?_
    rintro e w1 ⟨rfl, rfl⟩
    go_upto_region 8 with fail
    obtain ⟨hy0, gy⟩ := HKP.out (.slice (some ⟨b, off, none⟩) 0 0) (.inl ⟨by first | rfl | trivial, by first | rfl | trivial⟩)
    generalize (w.setCell ⟨q.pb, 2, none⟩ (.slice (some ⟨b, off, none⟩) 0 0)) = w2 at hy0 gy ⊢
    have hy := hy0.more (Nat.le_succ m)
    clear hy0
    obtain ⟨x0, x1, x2, x3, ⟨y0, y1, y2, y3⟩, x4, x5⟩ := KW.out w2 hy
    have z0 := x4 (v * 4)
    have z1 := x4 (v * 4 + 1)
    have z2 := x4 (v * 4 + 2)
    have z3 := x4 (v * 4 + 3)
    have GY := Lib.hid gy
    have HY := Lib.hid hy
    clear gy x4
    have hA2 : Fr NoF w2 (w2.alloc (.cells #[.int .u32 xi, .int .u64 xv, .int .i64 xp, .bool false] 94)) := (Fr.refl NoF w2).alloc _
    have hq3 := KN.out w2 _ hy hA2
    have HQ3 := Lib.hid hq3
    have HA2 := Lib.hid hA2
    obtain ⟨a0, a1, a2, a3, ⟨b0, b1, b2, b3⟩, a4, a5⟩ := KW.out _ hq3
    have f0 := a4 (v * 4)
    have f1 := a4 (v * 4 + 1)
    have f2 := a4 (v * 4 + 2)
    have f3 := a4 (v * 4 + 3)
    have bx : Blk (w2.alloc (.cells #[.int .u32 xi, .int .u64 xv, .int .i64 xp, .bool false] 94)) w2.heap.size 4 (fun i => if i = 0 then .int .u32 xi else if i = 1 then .int .u64 xv else if i = 2 then .int .i64 xp else .bool false) := Blk.new w2 #[.int .u32 xi, .int .u64 xv, .int .i64 xp, .bool false] 94 4 _ _ rfl rfl (fun i hi => by
      match i, hi with
      | 0, _ => rfl
      | 1, _ => rfl
      | 2, _ => rfl
      | 3, _ => rfl)
    have g0 := bx.cell (i := 0) (by omega)
    have g1 := bx.cell (i := 1) (by omega)
    have g3 := bx.cell (i := 3) (by omega)
    have gl := bx.lt
    simp only [Nat.reduceEqDiff, if_true, if_false] at g0 g1 g3
    clear a4 hy hq3 hA2 bx
    go_upto_region 16 with fail
    generalize (w2.alloc (.cells #[.int .u32 xi, .int .u64 xv, .int .i64 xp, .bool false] 94)) = w3 at *
    go_wp2
    go_returns
    refine ⟨rfl, ?_⟩
    exact Led.trans (R := fun _ _ => True) GY.out (fun i k => .inl k) (Led.trans (R := fun _ _ => True) (HA2.out.mono (fun _ k => k.elim)) (fun i k => .inl k) (KE.out _ _ HQ3.out rfl))
  · have hc2 : 1 < c := by omega
    go_enter Tryz.func62, Tryz.ntmps62
    go_wp2_with fail
    refine HC.out.mono ?_
    rintro e w1 ⟨rfl, rfl⟩
    go_upto_region 8 with fail
    obtain ⟨hy0, gy⟩ := HKP.out (.slice (some ⟨b, off + 1, none⟩) l.length (c - 1)) (.inr ⟨rfl, hc⟩)
    generalize (w.setCell ⟨q.pb, 2, none⟩ (.slice (some ⟨b, off + 1, none⟩) l.length (c - 1))) = w2 at hy0 gy ⊢
    have hy := hy0.more (Nat.le_succ m)
    clear hy0
    obtain ⟨x0, x1, x2, x3, ⟨y0, y1, y2, y3⟩, x4, x5⟩ := KW.out w2 hy
    have z0 := x4 (v * 4)
    have z1 := x4 (v * 4 + 1)
    have z2 := x4 (v * 4 + 2)
    have z3 := x4 (v * 4 + 3)
    have GY := Lib.hid gy
    have HY := Lib.hid hy
    clear gy x4
    have hA2 : Fr NoF w2 (w2.alloc (.cells #[.int .u32 xi, .int .u64 xv, .int .i64 xp, .bool false] 94)) := (Fr.refl NoF w2).alloc _
    have hq3 := KN.out w2 _ hy hA2
    have HQ3 := Lib.hid hq3
    have HA2 := Lib.hid hA2
    obtain ⟨a0, a1, a2, a3, ⟨b0, b1, b2, b3⟩, a4, a5⟩ := KW.out _ hq3
    have f0 := a4 (v * 4)
    have f1 := a4 (v * 4 + 1)
    have f2 := a4 (v * 4 + 2)
    have f3 := a4 (v * 4 + 3)
    have bx : Blk (w2.alloc (.cells #[.int .u32 xi, .int .u64 xv, .int .i64 xp, .bool false] 94)) w2.heap.size 4 (fun i => if i = 0 then .int .u32 xi else if i = 1 then .int .u64 xv else if i = 2 then .int .i64 xp else .bool false) := Blk.new w2 #[.int .u32 xi, .int .u64 xv, .int .i64 xp, .bool false] 94 4 _ _ rfl rfl (fun i hi => by
      match i, hi with
      | 0, _ => rfl
      | 1, _ => rfl
      | 2, _ => rfl
      | 3, _ => rfl)
    have g0 := bx.cell (i := 0) (by omega)
    have g1 := bx.cell (i := 1) (by omega)
    have g3 := bx.cell (i := 3) (by omega)
    have gl := bx.lt
    simp only [Nat.reduceEqDiff, if_true, if_false] at g0 g1 g3
    clear a4 hy hq3 hA2 bx
    go_upto_region 16 with fail
    generalize (w2.alloc (.cells #[.int .u32 xi, .int .u64 xv, .int .i64 xp, .bool false] 94)) = w3 at *
    go_wp2
    go_returns
    refine ⟨rfl, ?_⟩
    exact Led.trans (R := fun _ _ => True) GY.out (fun i k => .inl k) (Led.trans (R := fun _ _ => True) (HA2.out.mono (fun _ k => k.elim)) (fun i k => .inl k) (KE.out _ _ HQ3.out rfl))
set_option maxHeartbeats 4000000 in
theorem room_good_wrote (H : QI q z X m w F) (hI : Inv q.n X.f X.D) (hm : m < 70000) (hem : fstB q.n (emB q.n X.f) = none) {v : Nat} (hA : X.A = (v : Int) :: l) (hx : v < q.n) (hp : (X.f v).pins = 0) (hd : (X.f v).dirty = true) (he0 : (X.D.write (X.f v).id (X.f v).val).1 = 0) : Calls Tryz.prog 62 #[q.ptr] w fun e w' => e = .returned (.tuple #[.int .i64 v, .int .i64 0]) ∧ Led (QI q z { X with A := l, f := upd X.f v zF, D := (X.D.write (X.f v).id (X.f v).val).2 } (m + 3)) F w w' := by
  have HE := H.freeT hI
  rw [hem, show plZ none = -1 from rfl] at HE
  have HC := Lib.hid HE
  obtain ⟨_, c1, lb, lf⟩ := H.c
  obtain ⟨hd1, hd2⟩ := H.d1
  obtain ⟨c3, hsc⟩ := H.ch
  have hz2 := H.fzh 2
  have hz3 := H.fzh 3
  have hn := H.hn
  obtain ⟨b, off, c, c2, u1, u2, u3, u4, KP⟩ := H.pop hA
  have HKP := Lib.hid KP
  clear KP
  have hvn : v < q.n := hx
  have hbv := H.bdk v
  have KW : Hid (∀ w2, QI q z { X with A := l } (m + 1) w2 F → w2.cell? ⟨q.pb, 0, none⟩ = some (.pointer (some ⟨q.rb, 0, none⟩)) ∧ w2.cell? ⟨q.pb, 1, none⟩ = some (.slice (some ⟨q.fb, 0, none⟩) q.n q.n) ∧ q.pb < w2.heap.size ∧ q.fb < w2.heap.size ∧ (w2.cell? ⟨q.fb, v * 4, none⟩ = some (.int .u32 (X.f v).id) ∧ w2.cell? ⟨q.fb, v * 4 + 1, none⟩ = some (.int .u64 (X.f v).val) ∧ w2.cell? ⟨q.fb, v * 4 + 2, none⟩ = some (.int .i64 (X.f v).pins) ∧ w2.cell? ⟨q.fb, v * 4 + 3, none⟩ = some (.bool (X.f v).dirty)) ∧ (∀ i, w2.frozen? ⟨q.fb, i, none⟩ = false) ∧ ∀ i, F i → i < w2.heap.size) := fun w2 h => ⟨h.c.1, h.c.2.1, h.c.2.2.1, h.c.2.2.2, h.cf hvn, h.fz, h.lt⟩
  have KN : Hid (∀ w2 w3, QI q z { X with A := l } (m + 1) w2 F → Fr NoF w2 w3 → QI q z { X with A := l } (m + 1) w3 F) := fun w2 w3 h g => h.fr0 g
  have KD : Hid (∀ w2, QI q z { X with A := l } (m + 1) w2 F → Calls Tryz.prog 67 #[.pointer (some ⟨q.rb, 0, none⟩), .int .u32 (X.f v).id, .int .u64 (X.f v).val] w2 fun e w' => e = .returned (.int .i64 (X.D.write (X.f v).id (X.f v).val).1) ∧ Led (QI q z { X with A := l, D := (X.D.write (X.f v).id (X.f v).val).2 } (m + 2)) F w2 w') := fun w2 h => h.dwrite (by omega) _ hbv.2.1
  have KE : Hid (∀ w2 F2 wf, QI q z { X with A := l, D := (X.D.write (X.f v).id (X.f v).val).2 } (m + 2) w2 F2 → wf = (((w2.setCell ⟨q.fb, v * 4, none⟩ (.int .u32 (zF.id : Nat))).setCell ⟨q.fb, v * 4 + 1, none⟩ (.int .u64 (zF.val : Nat))).setCell ⟨q.fb, v * 4 + 2, none⟩ (.int .i64 (zF.pins : Nat))).setCell ⟨q.fb, v * 4 + 3, none⟩ (.bool zF.dirty) → Led (QI q z { X with A := l, f := upd X.f v zF, D := (X.D.write (X.f v).id (X.f v).val).2 } (m + 3)) F2 w2 wf) := fun w2 F2 wf h hw => (h.wipe hvn (x := zF) ⟨by decide, by decide, by show 0 ≤ m + 2; omega⟩ hw).mono (fun F' h => h.more (by omega))
  have KX : Hid (∀ w2 F2, QI q z { X with A := l, D := (X.D.write (X.f v).id (X.f v).val).2 } (m + 2) w2 F2 → w2.cell? ⟨q.pb, 1, none⟩ = some (.slice (some ⟨q.fb, 0, none⟩) q.n q.n) ∧ q.pb < w2.heap.size ∧ q.fb < w2.heap.size ∧ (w2.cell? ⟨q.fb, v * 4, none⟩ = some (.int .u32 (X.f v).id) ∧ w2.cell? ⟨q.fb, v * 4 + 1, none⟩ = some (.int .u64 (X.f v).val) ∧ w2.cell? ⟨q.fb, v * 4 + 2, none⟩ = some (.int .i64 (X.f v).pins) ∧ w2.cell? ⟨q.fb, v * 4 + 3, none⟩ = some (.bool (X.f v).dirty)) ∧ (∀ i, w2.frozen? ⟨q.fb, i, none⟩ = false)) := fun w2 F2 h => ⟨h.c.2.1, h.c.2.2.1, h.c.2.2.2, h.cf hvn, h.fz⟩
  have hscn : X.sc < 900000 := by omega
  have cpa := (H.cf hx).2.2.1
  clear cpa
  have hgt : decide (((X.f v).pins : Int) > 0) = false := decide_eq_false (by omega)
  have hgt2 : decide (0 < ((X.f v).pins : Int)) = false := decide_eq_false (by omega)
  have hgt3 : decide (0 < (X.f v).pins) = false := decide_eq_false (by omega)
  have hxd : decide ((v : Int) < 0) = false := by simp
  have hxe : decide ((v : Int) ≥ (q.n : Int)) = false := decide_eq_false (by omega)
  have hxf : decide ((q.n : Int) ≤ (v : Int)) = false := decide_eq_false (by omega)
  have HH := Lib.hid H
  have hid' : ∀ (w2 : World), True := fun _ => trivial
  clear hid'
  generalize (X.f v).id = xi at *
  generalize (X.f v).val = xv at *
  generalize (X.f v).pins = xp at *
  rw [hd] at KW KX
  generalize hww : X.D.write xi xv = R at *
  obtain ⟨er, D2⟩ := R
  dsimp only at *
  clear hww
  subst he0
  unfold QQ.ptr at *
  clear H hI hem HE hbv hd  hp
  unfold maxLen at u2
  have HU2 := Lib.hid u2
  clear u2
  by_cases hc : c = 1
  · subst hc
    have hl0 : l.length = 0 := by omega
    rw [hl0] at c2 HKP
    go_enter Tryz.func62, Tryz.ntmps62
    go_wp2_with fail
    refine HC.out.mono ?_
    rintro e w1 ⟨rfl, rfl⟩
    go_upto_region 8 with fail
    obtain ⟨hy0, gy⟩ := HKP.out (.slice (some ⟨b, off, none⟩) 0 0) (.inl ⟨by first | rfl | trivial, by first | rfl | trivial⟩)
    generalize (w.setCell ⟨q.pb, 2, none⟩ (.slice (some ⟨b, off, none⟩) 0 0)) = w2 at hy0 gy ⊢
    have hy := hy0.more (Nat.le_succ m)
    clear hy0
    obtain ⟨x0, x1, x2, x3, ⟨y0, y1, y2, y3⟩, x4, x5⟩ := KW.out w2 hy
    have z0 := x4 (v * 4)
    have z1 := x4 (v * 4 + 1)
    have z2 := x4 (v * 4 + 2)
    have z3 := x4 (v * 4 + 3)
    have GY := Lib.hid gy
    have HY := Lib.hid hy
    clear gy x4
    have hA2 : Fr NoF w2 (w2.alloc (.cells #[.int .u32 xi, .int .u64 xv, .int .i64 xp, .bool true] 94)) := (Fr.refl NoF w2).alloc _
    have hq3 := KN.out w2 _ hy hA2
    have HQ3 := Lib.hid hq3
    have HA2 := Lib.hid hA2
    obtain ⟨a0, a1, a2, a3, ⟨b0, b1, b2, b3⟩, a4, a5⟩ := KW.out _ hq3
    have f0 := a4 (v * 4)
    have f1 := a4 (v * 4 + 1)
    have f2 := a4 (v * 4 + 2)
    have f3 := a4 (v * 4 + 3)
    have bx : Blk (w2.alloc (.cells #[.int .u32 xi, .int .u64 xv, .int .i64 xp, .bool true] 94)) w2.heap.size 4 (fun i => if i = 0 then .int .u32 xi else if i = 1 then .int .u64 xv else if i = 2 then .int .i64 xp else .bool true) := Blk.new w2 #[.int .u32 xi, .int .u64 xv, .int .i64 xp, .bool true] 94 4 _ _ rfl rfl (fun i hi => by
      match i, hi with
      | 0, _ => rfl
      | 1, _ => rfl
      | 2, _ => rfl
      | 3, _ => rfl)
    have g0 := bx.cell (i := 0) (by omega)
    have g1 := bx.cell (i := 1) (by omega)
    have g3 := bx.cell (i := 3) (by omega)
    have gl := bx.lt
    simp only [Nat.reduceEqDiff, if_true, if_false] at g0 g1 g3
    clear a4 hy hq3 hA2 bx
    go_wp2_with fail
    generalize (w2.alloc (.cells #[.int .u32 xi, .int .u64 xv, .int .i64 xp, .bool true] 94)) = w3 at *
    go_still_tail 8, (by kernel_rfl)
    go_wp2_with fail
    refine (KD.out _ (KN.out _ _ HQ3.out ((Fr.refl NoF w3).drew))).mono ?_
    rintro e w4 ⟨rfl, F4, h4, k4, j4⟩
    obtain ⟨m1, m2, m3, ⟨n0, n1, n2, n3⟩, m4⟩ := KX.out _ _ h4
    have r0 := m4 (v * 4)
    have r1 := m4 (v * 4 + 1)
    have r2 := m4 (v * 4 + 2)
    have r3 := m4 (v * 4 + 3)
    have H4 := Lib.hid h4
    have K4 := Lib.hid k4
    have J4 := Lib.hid j4
    clear h4 k4 j4 m4
    go_wp2
    go_returns
    exact ⟨rfl, Led.trans (R := fun _ _ => True) GY.out (fun i k => .inl k) (Led.trans (R := fun _ _ => True) (HA2.out.mono (fun _ k => k.elim)) (fun i k => .inl k) (Led.trans (R := fun _ _ => True) ((Fr.refl F w3).drew) (fun i k => .inl k) (Led.trans (R := fun _ _ => True) K4.out J4.out (KE.out _ _ _ H4.out rfl))))⟩
  · have hc2 : 1 < c := by omega
    go_enter Tryz.func62, Tryz.ntmps62
    go_wp2_with fail
    refine HC.out.mono ?_
    rintro e w1 ⟨rfl, rfl⟩
    go_upto_region 8 with fail
    obtain ⟨hy0, gy⟩ := HKP.out (.slice (some ⟨b, off + 1, none⟩) l.length (c - 1)) (.inr ⟨rfl, hc⟩)
    generalize (w.setCell ⟨q.pb, 2, none⟩ (.slice (some ⟨b, off + 1, none⟩) l.length (c - 1))) = w2 at hy0 gy ⊢
    have hy := hy0.more (Nat.le_succ m)
    clear hy0
    obtain ⟨x0, x1, x2, x3, ⟨y0, y1, y2, y3⟩, x4, x5⟩ := KW.out w2 hy
    have z0 := x4 (v * 4)
    have z1 := x4 (v * 4 + 1)
    have z2 := x4 (v * 4 + 2)
    have z3 := x4 (v * 4 + 3)
    have GY := Lib.hid gy
    have HY := Lib.hid hy
    clear gy x4
    have hA2 : Fr NoF w2 (w2.alloc (.cells #[.int .u32 xi, .int .u64 xv, .int .i64 xp, .bool true] 94)) := (Fr.refl NoF w2).alloc _
    have hq3 := KN.out w2 _ hy hA2
    have HQ3 := Lib.hid hq3
    have HA2 := Lib.hid hA2
    obtain ⟨a0, a1, a2, a3, ⟨b0, b1, b2, b3⟩, a4, a5⟩ := KW.out _ hq3
    have f0 := a4 (v * 4)
    have f1 := a4 (v * 4 + 1)
    have f2 := a4 (v * 4 + 2)
    have f3 := a4 (v * 4 + 3)
    have bx : Blk (w2.alloc (.cells #[.int .u32 xi, .int .u64 xv, .int .i64 xp, .bool true] 94)) w2.heap.size 4 (fun i => if i = 0 then .int .u32 xi else if i = 1 then .int .u64 xv else if i = 2 then .int .i64 xp else .bool true) := Blk.new w2 #[.int .u32 xi, .int .u64 xv, .int .i64 xp, .bool true] 94 4 _ _ rfl rfl (fun i hi => by
      match i, hi with
      | 0, _ => rfl
      | 1, _ => rfl
      | 2, _ => rfl
      | 3, _ => rfl)
    have g0 := bx.cell (i := 0) (by omega)
    have g1 := bx.cell (i := 1) (by omega)
    have g3 := bx.cell (i := 3) (by omega)
    have gl := bx.lt
    simp only [Nat.reduceEqDiff, if_true, if_false] at g0 g1 g3
    clear a4 hy hq3 hA2 bx
    go_wp2_with fail
    generalize (w2.alloc (.cells #[.int .u32 xi, .int .u64 xv, .int .i64 xp, .bool true] 94)) = w3 at *
    go_still_tail 8, (by kernel_rfl)
    go_wp2_with fail
    refine (KD.out _ (KN.out _ _ HQ3.out ((Fr.refl NoF w3).drew))).mono ?_
    rintro e w4 ⟨rfl, F4, h4, k4, j4⟩
    obtain ⟨m1, m2, m3, ⟨n0, n1, n2, n3⟩, m4⟩ := KX.out _ _ h4
    have r0 := m4 (v * 4)
    have r1 := m4 (v * 4 + 1)
    have r2 := m4 (v * 4 + 2)
    have r3 := m4 (v * 4 + 3)
    have H4 := Lib.hid h4
    have K4 := Lib.hid k4
    have J4 := Lib.hid j4
    clear h4 k4 j4 m4
    go_wp2
    go_returns
    exact ⟨rfl, Led.trans (R := fun _ _ => True) GY.out (fun i k => .inl k) (Led.trans (R := fun _ _ => True) (HA2.out.mono (fun _ k => k.elim)) (fun i k => .inl k) (Led.trans (R := fun _ _ => True) ((Fr.refl F w3).drew) (fun i k => .inl k) (Led.trans (R := fun _ _ => True) K4.out J4.out (KE.out _ _ _ H4.out rfl))))⟩
set_option maxHeartbeats 4000000 in
theorem room_good_err (H : QI q z X m w F) (hI : Inv q.n X.f X.D) (hm : m < 70000) (hem : fstB q.n (emB q.n X.f) = none) {v : Nat} (hA : X.A = (v : Int) :: l) (hx : v < q.n) (hp : (X.f v).pins = 0) (hd : (X.f v).dirty = true) (he0 : ¬ (X.D.write (X.f v).id (X.f v).val).1 = 0) : Calls Tryz.prog 62 #[q.ptr] w fun e w' => e = .returned (.tuple #[.int .i64 (-1), .int .i64 (X.D.write (X.f v).id (X.f v).val).1]) ∧ Led (QI q z { X with A := l, D := (X.D.write (X.f v).id (X.f v).val).2 } (m + 3)) F w w' := by
  have HE := H.freeT hI
  rw [hem, show plZ none = -1 from rfl] at HE
  have HC := Lib.hid HE
  obtain ⟨_, c1, lb, lf⟩ := H.c
  obtain ⟨hd1, hd2⟩ := H.d1
  obtain ⟨c3, hsc⟩ := H.ch
  have hz2 := H.fzh 2
  have hz3 := H.fzh 3
  have hn := H.hn
  obtain ⟨b, off, c, c2, u1, u2, u3, u4, KP⟩ := H.pop hA
  have HKP := Lib.hid KP
  clear KP
  have hvn : v < q.n := hx
  have hbv := H.bdk v
  have KW : Hid (∀ w2, QI q z { X with A := l } (m + 1) w2 F → w2.cell? ⟨q.pb, 0, none⟩ = some (.pointer (some ⟨q.rb, 0, none⟩)) ∧ w2.cell? ⟨q.pb, 1, none⟩ = some (.slice (some ⟨q.fb, 0, none⟩) q.n q.n) ∧ q.pb < w2.heap.size ∧ q.fb < w2.heap.size ∧ (w2.cell? ⟨q.fb, v * 4, none⟩ = some (.int .u32 (X.f v).id) ∧ w2.cell? ⟨q.fb, v * 4 + 1, none⟩ = some (.int .u64 (X.f v).val) ∧ w2.cell? ⟨q.fb, v * 4 + 2, none⟩ = some (.int .i64 (X.f v).pins) ∧ w2.cell? ⟨q.fb, v * 4 + 3, none⟩ = some (.bool (X.f v).dirty)) ∧ (∀ i, w2.frozen? ⟨q.fb, i, none⟩ = false) ∧ ∀ i, F i → i < w2.heap.size) := fun w2 h => ⟨h.c.1, h.c.2.1, h.c.2.2.1, h.c.2.2.2, h.cf hvn, h.fz, h.lt⟩
  have KN : Hid (∀ w2 w3, QI q z { X with A := l } (m + 1) w2 F → Fr NoF w2 w3 → QI q z { X with A := l } (m + 1) w3 F) := fun w2 w3 h g => h.fr0 g
  have KD : Hid (∀ w2, QI q z { X with A := l } (m + 1) w2 F → Calls Tryz.prog 67 #[.pointer (some ⟨q.rb, 0, none⟩), .int .u32 (X.f v).id, .int .u64 (X.f v).val] w2 fun e w' => e = .returned (.int .i64 (X.D.write (X.f v).id (X.f v).val).1) ∧ Led (QI q z { X with A := l, D := (X.D.write (X.f v).id (X.f v).val).2 } (m + 2)) F w2 w') := fun w2 h => h.dwrite (by omega) _ hbv.2.1
  have KM : Hid (∀ w2 F2, QI q z { X with A := l, D := (X.D.write (X.f v).id (X.f v).val).2 } (m + 2) w2 F2 → QI q z { X with A := l, D := (X.D.write (X.f v).id (X.f v).val).2 } (m + 3) w2 F2) := fun w2 F2 h => h.more (by omega)
  have hscn : X.sc < 900000 := by omega
  have cpa := (H.cf hx).2.2.1
  clear cpa
  have hgt : decide (((X.f v).pins : Int) > 0) = false := decide_eq_false (by omega)
  have hgt2 : decide (0 < ((X.f v).pins : Int)) = false := decide_eq_false (by omega)
  have hgt3 : decide (0 < (X.f v).pins) = false := decide_eq_false (by omega)
  have hxd : decide ((v : Int) < 0) = false := by simp
  have hxe : decide ((v : Int) ≥ (q.n : Int)) = false := decide_eq_false (by omega)
  have hxf : decide ((q.n : Int) ≤ (v : Int)) = false := decide_eq_false (by omega)
  have HH := Lib.hid H
  have hid' : ∀ (w2 : World), True := fun _ => trivial
  clear hid'
  generalize (X.f v).id = xi at *
  generalize (X.f v).val = xv at *
  generalize (X.f v).pins = xp at *
  rw [hd] at KW
  generalize hww : X.D.write xi xv = R at *
  obtain ⟨er, D2⟩ := R
  dsimp only at *
  clear hww
  have hne : (((er : Nat) : Int) == 0) = false := by simp <;> exact he0
  unfold QQ.ptr at *
  clear H hI hem HE hbv hd  he0 hp
  unfold maxLen at u2
  have HU2 := Lib.hid u2
  clear u2
  by_cases hc : c = 1
  · subst hc
    have hl0 : l.length = 0 := by omega
    rw [hl0] at c2 HKP
    go_enter Tryz.func62, Tryz.ntmps62
    go_wp2_with fail
    refine HC.out.mono ?_
    rintro e w1 ⟨rfl, rfl⟩
    go_upto_region 8 with fail
    obtain ⟨hy0, gy⟩ := HKP.out (.slice (some ⟨b, off, none⟩) 0 0) (.inl ⟨by first | rfl | trivial, by first | rfl | trivial⟩)
    generalize (w.setCell ⟨q.pb, 2, none⟩ (.slice (some ⟨b, off, none⟩) 0 0)) = w2 at hy0 gy ⊢
    have hy := hy0.more (Nat.le_succ m)
    clear hy0
    obtain ⟨x0, x1, x2, x3, ⟨y0, y1, y2, y3⟩, x4, x5⟩ := KW.out w2 hy
    have z0 := x4 (v * 4)
    have z1 := x4 (v * 4 + 1)
    have z2 := x4 (v * 4 + 2)
    have z3 := x4 (v * 4 + 3)
    have GY := Lib.hid gy
    have HY := Lib.hid hy
    clear gy x4
    have hA2 : Fr NoF w2 (w2.alloc (.cells #[.int .u32 xi, .int .u64 xv, .int .i64 xp, .bool true] 94)) := (Fr.refl NoF w2).alloc _
    have hq3 := KN.out w2 _ hy hA2
    have HQ3 := Lib.hid hq3
    have HA2 := Lib.hid hA2
    obtain ⟨a0, a1, a2, a3, ⟨b0, b1, b2, b3⟩, a4, a5⟩ := KW.out _ hq3
    have f0 := a4 (v * 4)
    have f1 := a4 (v * 4 + 1)
    have f2 := a4 (v * 4 + 2)
    have f3 := a4 (v * 4 + 3)
    have bx : Blk (w2.alloc (.cells #[.int .u32 xi, .int .u64 xv, .int .i64 xp, .bool true] 94)) w2.heap.size 4 (fun i => if i = 0 then .int .u32 xi else if i = 1 then .int .u64 xv else if i = 2 then .int .i64 xp else .bool true) := Blk.new w2 #[.int .u32 xi, .int .u64 xv, .int .i64 xp, .bool true] 94 4 _ _ rfl rfl (fun i hi => by
      match i, hi with
      | 0, _ => rfl
      | 1, _ => rfl
      | 2, _ => rfl
      | 3, _ => rfl)
    have g0 := bx.cell (i := 0) (by omega)
    have g1 := bx.cell (i := 1) (by omega)
    have g3 := bx.cell (i := 3) (by omega)
    have gl := bx.lt
    simp only [Nat.reduceEqDiff, if_true, if_false] at g0 g1 g3
    clear a4 hy hq3 hA2 bx
    go_wp2_with fail
    generalize (w2.alloc (.cells #[.int .u32 xi, .int .u64 xv, .int .i64 xp, .bool true] 94)) = w3 at *
    go_still_tail 8, (by kernel_rfl)
    go_wp2_with fail
    refine (KD.out _ (KN.out _ _ HQ3.out ((Fr.refl NoF w3).drew))).mono ?_
    rintro e w4 ⟨rfl, F4, h4, k4, j4⟩
    have H4 := Lib.hid (KM.out _ _ h4)
    have K4 := Lib.hid k4
    have J4 := Lib.hid j4
    clear h4 k4 j4
    go_wp2
    go_returns
    exact ⟨rfl, Led.trans (R := fun _ _ => True) GY.out (fun i k => .inl k) (Led.trans (R := fun _ _ => True) (HA2.out.mono (fun _ k => k.elim)) (fun i k => .inl k) (Led.trans (R := fun _ _ => True) ((Fr.refl F w3).drew) (fun i k => .inl k) ⟨F4, H4.out, K4.out, J4.out⟩))⟩
  · have hc2 : 1 < c := by omega
    go_enter Tryz.func62, Tryz.ntmps62
    go_wp2_with fail
    refine HC.out.mono ?_
    rintro e w1 ⟨rfl, rfl⟩
    go_upto_region 8 with fail
    obtain ⟨hy0, gy⟩ := HKP.out (.slice (some ⟨b, off + 1, none⟩) l.length (c - 1)) (.inr ⟨rfl, hc⟩)
    generalize (w.setCell ⟨q.pb, 2, none⟩ (.slice (some ⟨b, off + 1, none⟩) l.length (c - 1))) = w2 at hy0 gy ⊢
    have hy := hy0.more (Nat.le_succ m)
    clear hy0
    obtain ⟨x0, x1, x2, x3, ⟨y0, y1, y2, y3⟩, x4, x5⟩ := KW.out w2 hy
    have z0 := x4 (v * 4)
    have z1 := x4 (v * 4 + 1)
    have z2 := x4 (v * 4 + 2)
    have z3 := x4 (v * 4 + 3)
    have GY := Lib.hid gy
    have HY := Lib.hid hy
    clear gy x4
    have hA2 : Fr NoF w2 (w2.alloc (.cells #[.int .u32 xi, .int .u64 xv, .int .i64 xp, .bool true] 94)) := (Fr.refl NoF w2).alloc _
    have hq3 := KN.out w2 _ hy hA2
    have HQ3 := Lib.hid hq3
    have HA2 := Lib.hid hA2
    obtain ⟨a0, a1, a2, a3, ⟨b0, b1, b2, b3⟩, a4, a5⟩ := KW.out _ hq3
    have f0 := a4 (v * 4)
    have f1 := a4 (v * 4 + 1)
    have f2 := a4 (v * 4 + 2)
    have f3 := a4 (v * 4 + 3)
    have bx : Blk (w2.alloc (.cells #[.int .u32 xi, .int .u64 xv, .int .i64 xp, .bool true] 94)) w2.heap.size 4 (fun i => if i = 0 then .int .u32 xi else if i = 1 then .int .u64 xv else if i = 2 then .int .i64 xp else .bool true) := Blk.new w2 #[.int .u32 xi, .int .u64 xv, .int .i64 xp, .bool true] 94 4 _ _ rfl rfl (fun i hi => by
      match i, hi with
      | 0, _ => rfl
      | 1, _ => rfl
      | 2, _ => rfl
      | 3, _ => rfl)
    have g0 := bx.cell (i := 0) (by omega)
    have g1 := bx.cell (i := 1) (by omega)
    have g3 := bx.cell (i := 3) (by omega)
    have gl := bx.lt
    simp only [Nat.reduceEqDiff, if_true, if_false] at g0 g1 g3
    clear a4 hy hq3 hA2 bx
    go_wp2_with fail
    generalize (w2.alloc (.cells #[.int .u32 xi, .int .u64 xv, .int .i64 xp, .bool true] 94)) = w3 at *
    go_still_tail 8, (by kernel_rfl)
    go_wp2_with fail
    refine (KD.out _ (KN.out _ _ HQ3.out ((Fr.refl NoF w3).drew))).mono ?_
    rintro e w4 ⟨rfl, F4, h4, k4, j4⟩
    have H4 := Lib.hid (KM.out _ _ h4)
    have K4 := Lib.hid k4
    have J4 := Lib.hid j4
    clear h4 k4 j4
    go_wp2
    go_returns
    exact ⟨rfl, Led.trans (R := fun _ _ => True) GY.out (fun i k => .inl k) (Led.trans (R := fun _ _ => True) (HA2.out.mono (fun _ k => k.elim)) (fun i k => .inl k) (Led.trans (R := fun _ _ => True) ((Fr.refl F w3).drew) (fun i k => .inl k) ⟨F4, H4.out, K4.out, J4.out⟩))⟩
end
end Go.Proofs.YtnideelidfpicaaGreatDoor

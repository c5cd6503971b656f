/-
  A Disk in memory: Stop, attempt, Read, Write.
-/
import Derived.Test.YtnideelidfpicaaGreatDoorK21
import Derived.Deep.RegionWith
namespace Go.Proofs.YtnideelidfpicaaGreatDoor
open Go.RowKit Go.Maps
set_option linter.unusedVariables false

/-- An access, as it is answered: the error, and the state behind it. -/
def DS.att (s : DS) (id : Nat) (b : Bool) : Nat × DS :=
  if s.has id then
    if s.stops ∧ s.left = 0 then (7, s)
    else if ¬ s.fl (id, b) = 0 then (7, { s with fl := updK s.fl (id, b) (s.fl (id, b) - 1) })
    else (0, if s.stops then { s with left := s.left - 1 } else s)
  else (3, s)
section
variable {w w' : World} {db c mb nf : Nat} {s : DS} {pv fv : Value} {fh : Nat → Nat} {F : Nat → Prop}
theorem dk_stop (h : DC w db s c pv fv mb fh nf) (t : Int) (ht : isI63 t.toNat) : Calls Tryz.prog 41 #[.pointer (some ⟨db, 0, none⟩), .int .i64 t] w fun e w' => e = .returned (.tuple #[]) ∧ DC w' db { s with stops := true, left := t.toNat } c pv fv mb fh nf ∧ Fr (fun k => k = db) w w' := by
  have f4 := h.hd.frozen 4
  have f5 := h.hd.frozen 5
  have c4 : w.cell? ⟨db, 4, none⟩ = some (.bool s.stops) := h.ce 4 (by omega)
  have c5 : w.cell? ⟨db, 5, none⟩ = some (.int .i64 s.left) := h.ce 5 (by omega)
  have lb := h.hd.lt
  have K : Hid (∀ z : Int, z = (t.toNat : Int) → DC ((w.setCell ⟨db, 4, none⟩ (.bool true)).setCell ⟨db, 5, none⟩ (.int .i64 z)) db { s with stops := true, left := t.toNat } c pv fv mb fh nf ∧ Fr (fun k => k = db) w ((w.setCell ⟨db, 4, none⟩ (.bool true)).setCell ⟨db, 5, none⟩ (.int .i64 z))) := by
    rintro z rfl
    obtain ⟨h1, f1⟩ := h.head 4 (.bool true) (dH_4 s pv fv mb true) rfl rfl rfl rfl h.lr
    obtain ⟨h2, f2⟩ := h1.head 5 (.int .i64 (t.toNat : Int)) (dH_5 _ pv fv mb t.toNat) rfl rfl rfl rfl ⟨ht, h.lr.2⟩
    exact ⟨h2, f1.trans f2 (fun i q => .inl q)⟩
  generalize s.stops = z1 at c4
  generalize s.left = z2 at c5
  clear h
  by_cases h0 : 0 ≤ t
  · go_enter Tryz.func41, Tryz.ntmps41
    go_wp2
    go_returns
    exact ⟨rfl, K.out _ (by omega)⟩
  · have hm : max t 0 = 0 := by omega
    go_enter Tryz.func41, Tryz.ntmps41
    go_wp2
    go_returns
    exact ⟨rfl, K.out _ (by omega)⟩

set_option maxHeartbeats 4000000 in
theorem dk_attempt (h : DC w db s c pv fv mb fh nf) {id : Nat} (hu : isU32 id) (b : Bool) : Calls Tryz.prog 72 #[.pointer (some ⟨db, 0, none⟩), .agg #[.int .u32 id, .bool b]] w fun e w' => e = .returned (.int .i64 (s.att id b).1) ∧
    (∃ c', c' ≤ c ∧ DC w' db (s.att id b).2 c' pv fv mb fh nf) ∧ Fr (fun i => i = db ∨ i = mb) w w' := by
  have c4 : w.cell? ⟨db, 4, none⟩ = some (.bool s.stops) := h.ce 4 (by omega)
  have c5 : w.cell? ⟨db, 5, none⟩ = some (.int .i64 s.left) := h.ce 5 (by omega)
  have c3 : w.cell? ⟨db, 3, none⟩ = some (.map (some mb)) := h.ce 3 (by omega)
  have lb := h.hd.lt
  have f5 := h.hd.frozen 5
  have hlr := h.lr.1
  have HA : Hid (∀ W, Fr NoF w W → Calls Tryz.prog 81 #[.pointer (some ⟨db, 0, none⟩), .int .u32 id] W fun e w' => e = .returned (.bool (s.has id)) ∧ W = w') := fun W f => dk_has (h.fr0 f) hu
  have fA : Fr NoF w (w.alloc (.cells #[.int .u32 id, .bool b] 111)) := (Fr.refl _ _).alloc _
  cases hh : s.has id with
  | false =>
    have HE : Hid (s.att id b = (3, s)) := by unfold Hid DS.att; rw [hh]; rfl
    rw [HE.out]
    have HA1 := HA.out _ fA
    rw [hh] at HA1
    have H1 := Lib.hid HA1
    have HH := Lib.hid h
    clear HA HA1 h hh hu
    go_enter Tryz.func72, Tryz.ntmps72
    go_wp2_with fail
    refine H1.out.mono ?_
    rintro e w' ⟨rfl, rfl⟩
    go_wp2
    go_returns
    exact ⟨rfl, ⟨c, Nat.le_refl _, HH.out.fr0 ((Fr.refl _ _).alloc _)⟩, (Fr.refl _ _).alloc _⟩
  | true =>
    have HA1 := HA.out _ fA
    rw [hh] at HA1
    have H1 := Lib.hid HA1
    have hir : 1 ≤ id ∧ id ≤ s.room := by
      have hr2 := h.r2
      unfold DS.has at hh
      simp at hh
      omega
    by_cases hst : s.stops = true ∧ s.left = 0
    · have HE : Hid (s.att id b = (7, s)) := by unfold Hid DS.att; rw [hh]; simp [hst.1, hst.2]
      rw [HE.out]
      rw [hst.1] at c4
      rw [hst.2] at c5
      have HH := Lib.hid h
      clear HA HA1 h hh hu hst
      go_enter Tryz.func72, Tryz.ntmps72
      go_wp2_with fail
      refine H1.out.mono ?_
      rintro e w' ⟨rfl, rfl⟩
      go_wp2
      go_returns
      exact ⟨rfl, ⟨c, Nat.le_refl _, HH.out.fr0 ((Fr.refl _ _).alloc _)⟩, (Fr.refl _ _).alloc _⟩
    · have HH := Lib.hid h
      have hfb := h.fb (id, b)
      have HL : ∀ d, (Instr.lookup 55 (.map (some mb)) (.agg #[.int .u32 id, .bool b]) false).run Tryz.prog ((w.alloc (.cells #[.int .u32 id, .bool b] 111)).drewN d) = .ok (.int .i64 (s.fl (id, b) : Nat)) ((w.alloc (.cells #[.int .u32 id, .bool b] 111)).drewN d) := by
        intro d
        have := (((h.fr0 fA).fr0 ((Fr.refl NoF _).drewN d)).mp).look_run MKA (x := (id, b)) hu
        have e : ((flM s.fl (id, b)).getD 0) = ((s.fl (id, b) : Nat) : Int) := by
          unfold flM; split
          · rename_i q; rw [q]; rfl
          · rfl
        rw [e] at this; exact this
      have HF : Hid (∀ d, ∀ z : Int, 1 ≤ s.fl (id, b) → z = (s.fl (id, b) : Int) - 1 → Calls Tryz.prog 39 #[.pointer (some ⟨db, 0, none⟩), .int .u32 id, .bool b, .int .i64 z] ((w.alloc (.cells #[.int .u32 id, .bool b] 111)).drewN d) fun e w' => e = .returned (.tuple #[]) ∧ (∃ c', c' ≤ c ∧ DC w' db { s with fl := updK s.fl (id, b) (s.fl (id, b) - 1) } c' pv fv mb fh nf) ∧ Fr (fun i => i = db ∨ i = mb) w w') := by
        intro d z hv hz
        have fD : Fr NoF w ((w.alloc (.cells #[.int .u32 id, .bool b] 111)).drewN d) := fA.drewN d
        have hct := h.ct
        by_cases h1 : s.fl (id, b) = 1
        · have e0 : s.fl (id, b) - 1 = 0 := by omega
          rw [e0]
          exact (dk_fail_none (h.fr0 fD) hu b (by omega) hir).mono fun e w' ⟨he, q1, q4⟩ => ⟨he, q1, (fD.mono (fun _ q => q.elim)).trans q4 (fun i q => .inl (.inr q))⟩
        · have hz2 : z = ((s.fl (id, b) - 1 : Nat) : Int) := by omega
          rw [hz2]
          exact (dk_fail_some (h.fr0 fD) hu b (k := s.fl (id, b) - 1) (by omega) (by unfold isI63 at *; omega) hir (fun q => by omega)).mono fun e w' ⟨he, ⟨c', q1, q2, q3⟩, q4⟩ => ⟨he, ⟨c', Nat.le_of_eq (q2 (by omega)), q3⟩, (fD.mono (fun _ q => q.elim)).trans q4 (fun i q => .inl (.inr q))⟩
      have HE : Hid (s.att id b = if ¬ s.fl (id, b) = 0 then (7, { s with fl := updK s.fl (id, b) (s.fl (id, b) - 1) }) else (0, if s.stops then { s with left := s.left - 1 } else s)) := by
        unfold Hid DS.att; rw [hh, if_pos rfl, if_neg hst]
      have HW : Hid (∀ d, ∀ z : Int, 1 ≤ s.left → z = (s.left : Int) - 1 → DC (((w.alloc (.cells #[.int .u32 id, .bool b] 111)).drewN d).setCell ⟨db, 5, none⟩ (.int .i64 z)) db { s with left := s.left - 1 } c pv fv mb fh nf ∧ Fr (fun i => i = db ∨ i = mb) w (((w.alloc (.cells #[.int .u32 id, .bool b] 111)).drewN d).setCell ⟨db, 5, none⟩ (.int .i64 z))) := by
        intro d z q1 q2
        obtain rfl : z = ((s.left - 1 : Nat) : Int) := by omega
        have fD : Fr NoF w ((w.alloc (.cells #[.int .u32 id, .bool b] 111)).drewN d) := fA.drewN d
        obtain ⟨h1, f1⟩ := (h.fr0 fD).head 5 (.int .i64 (s.left - 1 : Nat)) (dH_5 _ pv fv mb (s.left - 1)) rfl rfl rfl rfl ⟨by have := h.lr.1; show isI63 (s.left - 1); unfold isI63 at *; omega, h.lr.2⟩
        exact ⟨h1, (fD.mono (fun _ q => q.elim)).trans f1 (fun i q => .inl (.inl q))⟩
      clear HA HA1 h hh hu
      cases hs1 : s.stops with
      | false =>
        have HST := Lib.hid hs1
        rw [hs1] at c4
        clear hst HW hlr
        obtain hv | hv : s.fl (id, b) = 0 ∨ 1 ≤ s.fl (id, b) := by omega
        · have HE2 : Hid (s.att id b = (0, s)) := by unfold Hid; rw [HE.out, if_neg (by omega), hs1, if_neg (by simp)]
          rw [HE2.out]
          rw [hv] at HL
          clear hv hfb HE HE2 HF
          go_enter Tryz.func72, Tryz.ntmps72
          go_wp2_with fail
          refine H1.out.mono ?_
          rintro e w' ⟨rfl, rfl⟩
          go_wp2
          go_quiet (fail)
          go_wp2
          go_returns
          exact ⟨rfl, ⟨c, Nat.le_refl _, (HH.out.fr0 fA).fr0 ((Fr.refl _ _).drewN _)⟩, (fA.mono (fun _ q => q.elim)).drewN _⟩
        · have HV := Lib.hid hv
          have HFV := Lib.hid fun d z => HF.out d z hv
          have HE2 : Hid (s.att id b = (7, { s with fl := updK s.fl (id, b) (s.fl (id, b) - 1) })) := by unfold Hid; rw [HE.out, if_pos (by omega)]
          rw [HE2.out]
          clear HE HE2 HF HV
          generalize hq : s.fl (id, b) = v at HL hv hfb HFV ⊢
          have hv1 : 1 ≤ (v : Int) := by omega
          have hvw : IntKind.i64.wrap ((v : Int) - 1) = (v : Int) - 1 := IntWalk.i64_in _ (by unfold isI63 at hfb; omega)
          clear hv hfb hq
          go_enter Tryz.func72, Tryz.ntmps72
          go_wp2_with fail
          refine H1.out.mono ?_
          rintro e w' ⟨rfl, rfl⟩
          go_wp2
          go_quiet (fail)
          go_wp2_with fail
          refine (HFV.out _ _ (by first | rfl | omega)).mono ?_
          rintro e w2 ⟨rfl, h2⟩
          have H2 := Lib.hid h2
          clear h2
          go_wp2
          go_returns
          exact ⟨rfl, H2.out⟩
      | true =>
        have HST := Lib.hid hs1
        have hl0 : ¬ s.left = 0 := fun q => hst ⟨hs1, q⟩
        rw [hs1] at c4
        have hlb : ((s.left : Int) == 0) = false := by simp; omega
        have hl1 : 1 ≤ (s.left : Int) := by omega
        have hlw : IntKind.i64.wrap ((s.left : Int) - 1) = (s.left : Int) - 1 := IntWalk.i64_in _ (by unfold isI63 at hlr; omega)
        clear hlr
        clear hst
        obtain hv | hv : s.fl (id, b) = 0 ∨ 1 ≤ s.fl (id, b) := by omega
        · have HE2 : Hid (s.att id b = (0, { s with left := s.left - 1 })) := by unfold Hid; rw [HE.out, if_neg (by omega), hs1, if_pos rfl]
          rw [HE2.out]
          have HWL := Lib.hid fun d z => HW.out d z (by omega)
          have HLE := Lib.hid (rfl : s.left - 1 = s.left - 1)
          rw [hv] at HL
          clear hv hfb HE HE2 HF HW
          go_enter Tryz.func72, Tryz.ntmps72
          go_wp2_with fail
          refine H1.out.mono ?_
          rintro e w' ⟨rfl, rfl⟩
          go_wp2
          go_quiet (fail)
          go_wp2
          go_returns
          refine ⟨rfl, ⟨c, Nat.le_refl _, ?_⟩, ?_⟩
          · exact (HWL.out _ _ (by first | rfl | omega)).1
          · exact (HWL.out _ _ (by first | rfl | omega)).2
        · have HV := Lib.hid hv
          clear HW
          have HFV := Lib.hid fun d z => HF.out d z hv
          have HE2 : Hid (s.att id b = (7, { s with fl := updK s.fl (id, b) (s.fl (id, b) - 1) })) := by unfold Hid; rw [HE.out, if_pos (by omega)]
          rw [HE2.out]
          clear HE HE2 HF HV
          generalize hq : s.fl (id, b) = v at HL hv hfb HFV ⊢
          have hv1 : 1 ≤ (v : Int) := by omega
          have hvw : IntKind.i64.wrap ((v : Int) - 1) = (v : Int) - 1 := IntWalk.i64_in _ (by unfold isI63 at hfb; omega)
          clear hv hfb hq
          go_enter Tryz.func72, Tryz.ntmps72
          go_wp2_with fail
          refine H1.out.mono ?_
          rintro e w' ⟨rfl, rfl⟩
          go_wp2
          go_quiet (fail)
          go_wp2_with fail
          refine (HFV.out _ _ (by first | rfl | omega)).mono ?_
          rintro e w2 ⟨rfl, h2⟩
          have H2 := Lib.hid h2
          clear h2
          go_wp2
          go_returns
          exact ⟨rfl, H2.out⟩
end
end Go.Proofs.YtnideelidfpicaaGreatDoor

/-
  pool: NewPage.
  pool: Fetch.
  pool: Fetch of a page that comes; Unpin.
  pool: Unpin. (genPoY.py)
  pool: Has, Frame, Scans, Pins, Read; what one that isn't there answers.
  pool's advice: a Replacer whose victims are a list's numbers.
-/
import Derived.Test.YtnideelidfpicaaGreatDoorK46
namespace Go.Proofs.YtnideelidfpicaaGreatDoor
open Go.RowKit Go.Maps
set_option linter.unusedVariables false
set_option linter.unusedSimpArgs false
set_option linter.unusedSectionVars false
set_option maxRecDepth 100000

theorem cnt_none (n : Nat) (I : Nat → Bool) : cntB I n = 0 ↔ fstB n I = none := by
  constructor
  · intro h
    cases e : fstB n I with
    | none => rfl
    | some x => obtain ⟨h1, h2⟩ := fstB_some e; have := cntB_zero h x h1; rw [h2.1] at this; cases this
  · intro h
    rcases Nat.eq_zero_or_pos (cntB I n) with q | q
    · exact q
    · obtain ⟨x, h1, h2⟩ := cntB_some (S := I) (n := n) (by omega)
      rw [fstB_none h x h1] at h2; cases h2
theorem PS.all_eq {τ : Type} (X : PS τ) (n : Nat) : decide (cntB (emB n X.f) n = 0 ∧ cntB (idB n X.f) n = 0) = X.all n := by
  unfold PS.all
  rw [Bool.eq_iff_iff]
  simp [cnt_none]
section
variable {τ : Type} {P : Adv τ} {RR : World → τ → (Nat → Prop) → Prop} {ok : Nat → τ → (Nat → Nat) → (Nat → Bool) → Prop} {p : PP} (S : RepSys P RR p.pb p.rv p.n ok) {w w' : World} {m : Nat} {F : Nat → Prop} {X : PS τ} {T : PT τ}
theorem PI.c0 (H : PI RR p T m w F) : w.cell? ⟨p.pb, 0, none⟩ = some (.pointer (some ⟨p.db, 0, none⟩)) ∧ p.pb < w.heap.size := ⟨H.me.ce 0 (by omega), H.me.hd.lt⟩
theorem PI.cdE (H : PI RR p T m w F) : ∃ FD, CD p.db T.D m w FD := by obtain ⟨FD, FR, h, _⟩ := H; exact ⟨FD, h.cd⟩
include S
theorem PI.free (H : PI RR p T m w F) {id : Nat} (hu : id < 4294967296) : Calls Tryz.prog 53 #[.pointer (some ⟨p.db, 0, none⟩), .int .u32 id] w fun e w' => e = .returned (.int .i64 (T.D.free id).1) ∧ Led (PI RR p { T with D := (T.D.free id).2 } m) F w w' :=
  H.disk S (Q := fun e _ => e = .returned (.int .i64 (T.D.free id).1)) (Nat.le_refl m) (fun FD hd => cd_free hd (by unfold isU32; omega))
theorem PI.alloc (H : PI RR p T m w F) (hf : T.D.L.length < T.D.room) : Calls Tryz.prog 51 #[.pointer (some ⟨p.db, 0, none⟩)] w fun e w' => e = .returned (.tuple #[.int .u32 (gapOf T.D.L + 1 : Nat), .int .i64 0]) ∧ Led (PI RR p { T with D := T.D.ins (gapOf T.D.L) } m) F w w' :=
  H.disk S (Q := fun e _ => e = .returned (.tuple #[.int .u32 (gapOf T.D.L + 1 : Nat), .int .i64 0])) (Nat.le_refl m) (fun FD hd => cd_alloc hd hf)
theorem PI.full (H : PI RR p T m w F) (hf : T.D.room ≤ T.D.L.length) : Calls Tryz.prog 51 #[.pointer (some ⟨p.db, 0, none⟩)] w fun e w' => e = .returned (.tuple #[.int .u32 0, .int .i64 2]) ∧ Led (PI RR p T m) F w w' :=
  H.disk S (Q := fun e _ => e = .returned (.tuple #[.int .u32 0, .int .i64 2])) (Nat.le_refl m) (fun FD hd => cd_full hd hf)
theorem PI.read (H : PI RR p T m w F) (hm : m < 80000) {id : Nat} (hu : id < 4294967296) : Calls Tryz.prog 46 #[.pointer (some ⟨p.db, 0, none⟩), .int .u32 id] w fun e w' => e = .returned (.tuple #[.int .u64 (T.D.read id).1.1, .int .i64 (T.D.read id).1.2]) ∧ Led (PI RR p { T with D := (T.D.read id).2 } (m + 1)) F w w' :=
  H.disk S (Q := fun e _ => e = .returned (.tuple #[.int .u64 (T.D.read id).1.1, .int .i64 (T.D.read id).1.2])) (Nat.le_succ m) (fun FD hd => cd_read hd (by omega) (by unfold isU32; omega))
set_option maxHeartbeats 2000000 in
theorem np_all (H : PW RR ok p X m w F) (ha : X.all p.n = true) : Calls Tryz.prog 19 #[p.ptr] w fun e w' => e = .returned (.tuple #[.int .u32 0, .int .i64 6]) ∧ w = w' := by
  have HA := allp_calls H.1.me
  rw [show (CT p.n X).E = emB p.n X.f from rfl, show (CT p.n X).I = idB p.n X.f from rfl, X.all_eq, ha] at HA
  have HA1 := Lib.hid HA
  unfold PP.ptr at *
  clear H S HA
  go_enter Tryz.func19, Tryz.ntmps19
  go_wp2_with fail
  refine HA1.out.mono ?_
  rintro e w1 ⟨rfl, rfl⟩
  go_wp2
  go_returns
  exact ⟨rfl, rfl⟩
set_option maxHeartbeats 2000000 in
theorem np_full (H : PW RR ok p X m w F) (ha : ¬ X.all p.n = true) (hf : X.D.room ≤ X.D.L.length) : Calls Tryz.prog 19 #[p.ptr] w fun e w' => e = .returned (.tuple #[.int .u32 0, .int .i64 2]) ∧ Led (PW RR ok p X m) F w w' := by
  have HA := allp_calls H.1.me
  rw [show (CT p.n X).E = emB p.n X.f from rfl, show (CT p.n X).I = idB p.n X.f from rfl, X.all_eq, Bool.eq_false_iff.2 ha] at HA
  have HA1 := Lib.hid HA
  obtain ⟨c0, lb⟩ := H.1.c0
  have HL := Lib.hid ((H.1.full S hf).mono (fun e w' ⟨he, hl⟩ => (⟨he, hl.mono (fun F' h => (⟨h, H.2⟩ : PW RR ok p X m w' F'))⟩ : e = Ending.returned (.tuple #[.int .u32 0, .int .i64 2]) ∧ Led (PW RR ok p X m) F w w')))
  unfold PP.ptr at *
  clear H S HA ha hf
  go_enter Tryz.func19, Tryz.ntmps19
  go_wp2_with fail
  refine HA1.out.mono ?_
  rintro e w1 ⟨rfl, rfl⟩
  go_wp2_with fail
  refine HL.out.mono ?_
  rintro e w1 ⟨rfl, h1⟩
  have H1 := Lib.hid h1
  clear h1
  go_wp2
  go_returns
  exact ⟨rfl, H1.out⟩
/-- The pool, as Alloc leaves it. -/
noncomputable def PS.alc (X : PS τ) : PS τ := { X with D := X.D.ins (gapOf X.D.L) }
theorem alc_facts (H : PW RR ok p X m w F) (hf : X.D.L.length < X.D.room) : gapOf X.D.L + 1 < 4294967296 ∧ (∀ i, i < p.n → ¬ (X.f i).id = gapOf X.D.L + 1) ∧ Inv p.n X.alc.f X.alc.D := by
  obtain ⟨FD, hcd⟩ := H.1.cdE
  have hrm : X.D.room ≤ 65535 := hcd.room.2
  have hle := (gapOf_is X.D.L).le
  refine ⟨by omega, fun i hi q => ?_, H.2.1.ins hf⟩
  have h1 := H.2.1.has i hi (by omega)
  rw [q, H.2.1.gap] at h1; cases h1
theorem np_room (H : PW RR ok p X m w F) (hm : m < 60000) (ha : ¬ X.all p.n = true) (hf : X.D.L.length < X.D.room) :
    (∀ w1 F1, PI RR p { CT p.n X with D := X.D.ins (gapOf X.D.L) } m w1 F1 → Calls Tryz.prog 52 #[p.ptr, .int .u32 (gapOf X.D.L + 1 : Nat)] w1 fun e w' => e = .returned (.tuple #[.int .i64 (plZ (X.alc.room P p.n (gapOf X.D.L + 1)).1.1), .int .i64 (X.alc.room P p.n (gapOf X.D.L + 1)).1.2]) ∧
      Led (PI RR p ⟨(X.alc.room P p.n (gapOf X.D.L + 1)).2.f, plO p.n (X.alc.room P p.n (gapOf X.D.L + 1)).2.f X.D, emB p.n (X.alc.room P p.n (gapOf X.D.L + 1)).2.f, idB p.n (X.alc.room P p.n (gapOf X.D.L + 1)).2.f, (X.alc.room P p.n (gapOf X.D.L + 1)).2.sc, (X.alc.room P p.n (gapOf X.D.L + 1)).2.D, (X.alc.room P p.n (gapOf X.D.L + 1)).2.A⟩ (m + 6)) F1 w1 w') ∧
    Inv p.n (X.alc.room P p.n (gapOf X.D.L + 1)).2.f (X.alc.room P p.n (gapOf X.D.L + 1)).2.D ∧ ok (m + 6) (X.alc.room P p.n (gapOf X.D.L + 1)).2.A (pgO (X.alc.room P p.n (gapOf X.D.L + 1)).2.f) (evO (X.alc.room P p.n (gapOf X.D.L + 1)).2.f) ∧
    (∀ i, i < p.n → ¬ ((X.alc.room P p.n (gapOf X.D.L + 1)).2.f i).id = gapOf X.D.L + 1) ∧ (X.alc.room P p.n (gapOf X.D.L + 1)).2.D.has (gapOf X.D.L + 1) = true ∧ (∀ x, (X.alc.room P p.n (gapOf X.D.L + 1)).2.D.has x = (decide (x = gapOf X.D.L + 1) || X.D.has x)) ∧
    (∀ x, ((X.alc.room P p.n (gapOf X.D.L + 1)).2.D.free (gapOf X.D.L + 1)).2.has x = X.D.has x) ∧
    (∀ k, (X.alc.room P p.n (gapOf X.D.L + 1)).1.1 = some k → (X.alc.room P p.n (gapOf X.D.L + 1)).1.2 = 0 ∧ k < p.n ∧ (X.alc.room P p.n (gapOf X.D.L + 1)).2.f k = zF) ∧ ((X.alc.room P p.n (gapOf X.D.L + 1)).1.1 = none → ¬ (X.alc.room P p.n (gapOf X.D.L + 1)).1.2 = 0) := by
  obtain ⟨hu, hno, hIa⟩ := alc_facts S H hf
  obtain ⟨r1, r2, r3, r4, r5, r6, r7, r8⟩ := room_inv S (X := X.alc) (D0 := X.D) hIa (by omega) H.2.2 (id := gapOf X.D.L + 1) (by omega) hno ha
  have e6 := r6 X.D H.2.1
  have h4 : ∀ x, (X.alc.room P p.n (gapOf X.D.L + 1)).2.D.has x = (decide (x = gapOf X.D.L + 1) || X.D.has x) := fun x => by
    rw [r4]
    show (X.D.ins _).has _ = _
    rw [RS.ins_has]
  have hhas : (X.alc.room P p.n (gapOf X.D.L + 1)).2.D.has (gapOf X.D.L + 1) = true := by rw [h4]; simp
  refine ⟨fun w1 F1 h => ?_, r1, r2, r3, hhas, h4, fun x => ?_, r7, fun q => (r8 q).1⟩
  · have := room_calls S (X := X.alc) (pl := plO p.n X.f X.D) h H.2.1.inj (by omega) H.2.2 (by omega) hu hno ha
    rw [show plO p.n X.alc.f X.D = plO p.n X.f X.D from rfl] at e6
    rw [e6] at this
    exact this
  · obtain ⟨s, hs⟩ := r1.dr
    rw [hs.free_has hhas, h4]
    by_cases q : x = gapOf X.D.L + 1
    · rw [q, H.2.1.gap]; simp
    · simp [q]
set_option maxHeartbeats 1000000 in
theorem np_fail (H : PW RR ok p X m w F) (hm : m < 60000) (ha : ¬ X.all p.n = true) (hf : X.D.L.length < X.D.room) (hr : (X.alc.room P p.n (gapOf X.D.L + 1)).1.1 = none) : Calls Tryz.prog 19 #[p.ptr] w fun e w' => e = .returned (.tuple #[.int .u32 0, .int .i64 (X.alc.room P p.n (gapOf X.D.L + 1)).1.2]) ∧
    Led (PW RR ok p { (X.alc.room P p.n (gapOf X.D.L + 1)).2 with D := ((X.alc.room P p.n (gapOf X.D.L + 1)).2.D.free (gapOf X.D.L + 1)).2 } (m + 10)) F w w' := by
  have HA := allp_calls H.1.me
  rw [show (CT p.n X).E = emB p.n X.f from rfl, show (CT p.n X).I = idB p.n X.f from rfl, X.all_eq, Bool.eq_false_iff.2 ha] at HA
  have HA1 := Lib.hid HA
  obtain ⟨c0, lb⟩ := H.1.c0
  obtain ⟨hu, _, _⟩ := alc_facts S H hf
  have hl0 := H.1.alloc S hf
  rw [show (CT p.n X).D = X.D from rfl] at hl0
  have HL := Lib.hid hl0
  clear hl0
  obtain ⟨hroom, r1, r2, r3, r4, r5, r6, r7, r8⟩ := np_room S H hm ha hf
  have HRoom := Lib.hid hroom
  have r9 := r8 hr
  clear hroom r7 r8 r5
  generalize X.alc.room P p.n (gapOf X.D.L + 1) = R at *
  obtain ⟨⟨q1, q2⟩, R2⟩ := R
  dsimp only at *
  subst hr
  have HFin : Hid (∀ w2 F2, PI RR p ⟨R2.f, plO p.n R2.f X.D, emB p.n R2.f, idB p.n R2.f, R2.sc, R2.D, R2.A⟩ (m + 6) w2 F2 → Calls Tryz.prog 53 #[.pointer (some ⟨p.db, 0, none⟩), .int .u32 (gapOf X.D.L + 1 : Nat)] w2 fun e w' => (∃ x, e = .returned x) ∧ Led (PW RR ok p { R2 with D := (R2.D.free (gapOf X.D.L + 1)).2 } (m + 10)) F2 w2 w') := fun w2 F2 h => by
    refine (h.free S hu).mono ?_
    rintro e w' ⟨he, hl⟩
    refine ⟨⟨_, he⟩, hl.mono (fun F' h' => ?_)⟩
    dsimp only at h'
    have hw : PW RR ok p { R2 with D := (R2.D.free (gapOf X.D.L + 1)).2 } (m + 6) w' F' := ⟨by
      unfold CT
      dsimp only
      rw [plO_D r6]
      exact h', r1.free r3, r2⟩
    exact hw.more S (by omega)
  have hne : (((q2 : Nat) : Int) == 0) = false := by simp <;> exact r9
  unfold PP.ptr at *
  clear H S HA ha hf r1 r2 r3 r4 r6 r9
  generalize hgi : gapOf X.D.L + 1 = id at *
  clear hgi hu
  go_enter Tryz.func19, Tryz.ntmps19
  go_wp2_with fail
  refine HA1.out.mono ?_
  rintro e w1 ⟨rfl, rfl⟩
  go_wp2_with fail
  refine HL.out.mono ?_
  rintro e w1 ⟨rfl, F1, h1, g1, k1⟩
  have HR1 := Lib.hid (HRoom.out w1 F1 h1)
  obtain ⟨_, lb1⟩ := h1.c0
  have G1 := Lib.hid g1
  have K1 := Lib.hid k1
  clear h1 g1 k1 HRoom
  go_wp2_with fail
  refine HR1.out.mono ?_
  rintro e w2 ⟨rfl, F2, h2, g2, k2⟩
  have HF2 := Lib.hid (HFin.out w2 F2 h2)
  obtain ⟨c2, lb2⟩ := h2.c0
  have G2 := Lib.hid g2
  have K2 := Lib.hid k2
  clear h2 g2 k2 HFin HR1
  go_wp2_with fail
  refine HF2.out.mono ?_
  rintro e w3 ⟨⟨x, rfl⟩, h3⟩
  have H3 := Lib.hid h3
  clear h3
  go_wp2
  go_returns
  exact ⟨rfl, Led.trans (R := fun _ _ => True) G1.out K1.out (Led.trans (R := fun _ _ => True) G2.out K2.out H3.out)⟩
set_option maxHeartbeats 1000000 in
theorem np_ok (H : PW RR ok p X m w F) (hm : m < 60000) (ha : ¬ X.all p.n = true) (hf : X.D.L.length < X.D.room) {k : Nat} (hr : (X.alc.room P p.n (gapOf X.D.L + 1)).1.1 = some k) : Calls Tryz.prog 19 #[p.ptr] w fun e w' => e = .returned (.tuple #[.int .u32 (gapOf X.D.L + 1 : Nat), .int .i64 0]) ∧
    Led (PW RR ok p { (X.alc.room P p.n (gapOf X.D.L + 1)).2 with f := upd (X.alc.room P p.n (gapOf X.D.L + 1)).2.f k ⟨gapOf X.D.L + 1, 0, 1, false⟩, A := P.access (X.alc.room P p.n (gapOf X.D.L + 1)).2.A k (gapOf X.D.L + 1) } (m + 10)) F w w' := by
  have HA := allp_calls H.1.me
  rw [show (CT p.n X).E = emB p.n X.f from rfl, show (CT p.n X).I = idB p.n X.f from rfl, X.all_eq, Bool.eq_false_iff.2 ha] at HA
  have HA1 := Lib.hid HA
  obtain ⟨c0, lb⟩ := H.1.c0
  obtain ⟨hu, _, _⟩ := alc_facts S H hf
  have hl0 := H.1.alloc S hf
  rw [show (CT p.n X).D = X.D from rfl] at hl0
  have HL := Lib.hid hl0
  clear hl0
  obtain ⟨hroom, r1, r2, r3, r4, r5, r6, r7, r8⟩ := np_room S H hm ha hf
  obtain ⟨r9, r10, r11⟩ := r7 k hr
  have HRoom := Lib.hid hroom
  have hI0 := H.2.1
  clear hroom r7 r8 r6
  generalize X.alc.room P p.n (gapOf X.D.L + 1) = R at *
  obtain ⟨⟨q1, q2⟩, R2⟩ := R
  dsimp only at *
  subst hr
  subst r9
  have hk0 : (R2.f k).id = 0 := by rw [r11]; rfl
  have hkp : (R2.f k).pins = 0 := by rw [r11]; rfl
  have hno' : ∀ i, i < p.n → ¬ pgO R2.f i = gapOf X.D.L + 1 := r3
  have HFin : Hid (∀ w2 F2, PI RR p ⟨R2.f, plO p.n R2.f X.D, emB p.n R2.f, idB p.n R2.f, R2.sc, R2.D, R2.A⟩ (m + 6) w2 F2 → Calls Tryz.prog 54 #[p.ptr, .int .i64 k, .int .u32 (gapOf X.D.L + 1 : Nat)] w2 fun e w' => e = .returned (.tuple #[]) ∧ Led (PW RR ok p { R2 with f := upd R2.f k ⟨gapOf X.D.L + 1, 0, 1, false⟩, A := P.access R2.A k (gapOf X.D.L + 1) } (m + 10)) F2 w2 w') := fun w2 F2 h => by
    refine (enter_calls S h (by omega) r10 (by omega) hu r2 hk0 hno' (by omega)).mono ?_
    rintro e w' ⟨he, hl⟩
    refine ⟨he, hl.mono (fun F' h' => ?_)⟩
    dsimp only at h'
    have hw : PW RR ok p { R2 with f := upd R2.f k ⟨gapOf X.D.L + 1, 0, 1, false⟩, A := P.access R2.A k (gapOf X.D.L + 1) } (m + 6 + 1) w' F' := ⟨by
      unfold CT
      dsimp only
      have e1 : plO p.n (upd R2.f k ⟨gapOf X.D.L + 1, 0, 1, false⟩) R2.D = updO (plO p.n R2.f X.D) (gapOf X.D.L + 1) (some (k : Int)) := by
        rw [plO_enter (x := ⟨gapOf X.D.L + 1, 0, 1, false⟩) r1 r10 hk0 r4 r3]
        funext y
        by_cases q : y = gapOf X.D.L + 1
        · subst q; rw [updO_same, updO_same]
        · rw [updO_other _ _ q, updO_other _ _ q]
          unfold plO
          rw [r5 y]
          simp [q]
      rw [e1, emB_upd r10, idB_upd r10]
      have e2 : updB (idB p.n R2.f) k (decide (¬ (FrS.id ⟨gapOf X.D.L + 1, 0, 1, false⟩) = 0) && decide ((FrS.pins ⟨gapOf X.D.L + 1, 0, 1, false⟩) = 0)) = idB p.n R2.f := by
        have e3 : idB p.n R2.f k = false := by rw [idB_at r10, hk0]; simp
        rw [show (decide (¬ (FrS.id ⟨gapOf X.D.L + 1, 0, 1, false⟩) = 0) && decide ((FrS.pins ⟨gapOf X.D.L + 1, 0, 1, false⟩) = 0)) = false from by simp]
        exact updB_id e3
      rw [e2, show decide ((FrS.id ⟨gapOf X.D.L + 1, 0, 1, false⟩) = 0) = false from by simp]
      exact h', r1.enter r10 hk0 r4 r3 (by show 0 < _; omega), by
      show ok (m + 6 + 1) (P.access R2.A k (gapOf X.D.L + 1)) (pgO (upd R2.f k ⟨gapOf X.D.L + 1, 0, 1, false⟩)) (evO (upd R2.f k ⟨gapOf X.D.L + 1, 0, 1, false⟩))
      rw [pgO_upd, evO_upd]
      exact S.okNew r2 (by omega) (by omega) r10 hk0 hno'⟩
    exact hw.more S (by omega)
  unfold PP.ptr at *
  clear H S HA ha hf r1 r2 r3 r4 r5 r10 r11 hk0 hkp hno' hI0
  generalize hgi : gapOf X.D.L + 1 = id at *
  clear hgi hu
  have hpz : plZ (some k) = (k : Int) := rfl
  rw [hpz] at HRoom
  go_enter Tryz.func19, Tryz.ntmps19
  go_wp2_with fail
  refine HA1.out.mono ?_
  rintro e w1 ⟨rfl, rfl⟩
  go_wp2_with fail
  refine HL.out.mono ?_
  rintro e w1 ⟨rfl, F1, h1, g1, k1⟩
  have HR1 := Lib.hid (HRoom.out w1 F1 h1)
  obtain ⟨_, lb1⟩ := h1.c0
  have G1 := Lib.hid g1
  have K1 := Lib.hid k1
  clear h1 g1 k1 HRoom
  go_wp2_with fail
  refine HR1.out.mono ?_
  rintro e w2 ⟨rfl, F2, h2, g2, k2⟩
  have HF2 := Lib.hid (HFin.out w2 F2 h2)
  obtain ⟨c2, lb2⟩ := h2.c0
  have G2 := Lib.hid g2
  have K2 := Lib.hid k2
  clear h2 g2 k2 HFin HR1
  go_wp2_with fail
  refine HF2.out.mono ?_
  rintro e w3 ⟨rfl, h3⟩
  have H3 := Lib.hid h3
  clear h3
  go_wp2
  go_returns
  exact ⟨rfl, Led.trans (R := fun _ _ => True) G1.out K1.out (Led.trans (R := fun _ _ => True) G2.out K2.out H3.out)⟩
theorem np_calls (H : PW RR ok p X m w F) (hm : m < 60000) : Calls Tryz.prog 19 #[p.ptr] w fun e w' => e = .returned (.tuple #[.int .u32 (X.newPage P p.n).1.1, .int .i64 (X.newPage P p.n).1.2]) ∧ Led (PW RR ok p (X.newPage P p.n).2 (m + 10)) F w w' := by
  unfold PS.newPage
  by_cases ha : X.all p.n = true
  · rw [if_pos ha]
    refine (np_all S H ha).mono ?_
    rintro e w' ⟨he, rfl⟩
    exact ⟨he, Led.refl (H.more S (by omega))⟩
  · rw [if_neg ha]
    by_cases hf : X.D.room ≤ X.D.L.length
    · rw [if_pos hf]
      refine (np_full S H ha hf).mono ?_
      rintro e w' ⟨he, hl⟩
      exact ⟨he, hl.mono (fun F' h => h.more S (by omega))⟩
    · rw [if_neg hf]
      have hf' : X.D.L.length < X.D.room := by omega
      cases hr : (X.alc.room P p.n (gapOf X.D.L + 1)).1.1 with
      | none =>
        have := np_fail S H hm ha hf' hr
        unfold PS.alc at hr this
        rw [hr]
        exact this
      | some k =>
        have := np_ok S H hm ha hf' hr
        unfold PS.alc at hr this
        rw [hr]
        exact this
end
end Go.Proofs.YtnideelidfpicaaGreatDoor
namespace Go.Proofs.YtnideelidfpicaaGreatDoor
open Go.RowKit Go.Maps
set_option linter.unusedVariables false
set_option linter.unusedSimpArgs false
set_option linter.unusedSectionVars false
set_option maxRecDepth 100000
section
variable {τ : Type} {P : Adv τ} {RR : World → τ → (Nat → Prop) → Prop} {ok : Nat → τ → (Nat → Nat) → (Nat → Bool) → Prop} {p : PP} (S : RepSys P RR p.pb p.rv p.n ok) {w w' : World} {m : Nat} {F : Nat → Prop} {X : PS τ} {T : PT τ}
theorem plO_none {n : Nat} {f : Nat → FrS} {D : RS} {id : Nat} (h : D.has id = false) : plO n f D id = none := by unfold plO; rw [h]; rfl
theorem plO_some {n : Nat} {f : Nat → FrS} {D : RS} {id k : Nat} (h : D.has id = true) (hk : frm n f id = some k) : plO n f D id = some (k : Int) := by unfold plO; rw [h, hk]; rfl
theorem plO_out {n : Nat} {f : Nat → FrS} {D : RS} {id : Nat} (h : D.has id = true) (hk : frm n f id = none) : plO n f D id = some (-1) := by unfold plO; rw [h, hk]; rfl
theorem Inv.fpos {n : Nat} {f : Nat → FrS} {D : RS} (H : Inv n f D) {id k : Nat} (h : D.has id = true) (hk : frm n f id = some k) : k < n ∧ (f k).id = id ∧ 1 ≤ id := ⟨(frm_some hk).1, (frm_some hk).2, H.pos h⟩
include S
theorem touch_pw (H : PW RR ok p X m w F) (hm : m < 60000) {k : Nat} (hk : k < p.n) (h0 : ¬ (X.f k).id = 0) : Calls Tryz.prog 58 #[p.ptr, .int .i64 k] w fun e w' => e = .returned (.tuple #[]) ∧ Led (PW RR ok p (X.touch P k) (m + 3)) F w w' := by
  have h1 : 1 ≤ ((CT p.n X).f k).id := by show 1 ≤ (X.f k).id; omega
  have e1 : plO p.n (upd X.f k { X.f k with pins := (X.f k).pins + 1 }) X.D = plO p.n X.f X.D := plO_same hk rfl
  have e2 : emB p.n (upd X.f k { X.f k with pins := (X.f k).pins + 1 }) = emB p.n X.f := by
    rw [emB_upd hk]
    exact updB_id (emB_at hk)
  have e3 : idB p.n (upd X.f k { X.f k with pins := (X.f k).pins + 1 }) = updB (idB p.n X.f) k false := by
    rw [idB_upd hk]
    congr 1
    simp
  have hI : Inv p.n (upd X.f k { X.f k with pins := (X.f k).pins + 1 }) X.D := H.2.1.keep hk rfl h0 (H.2.1.vf k hk)
  have hE : ∀ {A : τ} {ev : Nat → Bool}, ok (m + 3) A (pgO X.f) ev → (∀ i, i < p.n → ev i = upd (evO X.f) k false i) → ok (m + 3) A (pgO (upd X.f k { X.f k with pins := (X.f k).pins + 1 })) (evO (upd X.f k { X.f k with pins := (X.f k).pins + 1 })) := fun {A ev} h he => by
    refine S.same h (fun i hi => ?_) (fun i hi _ => ?_)
    · rw [pgO_upd]
      by_cases e : i = k
      · rw [e, upd_same]; rfl
      · rw [upd_other _ _ e]
    · rw [he i hi, evO_upd]
      by_cases e : i = k
      · rw [e, upd_same, upd_same]; simp
      · rw [upd_other _ _ e, upd_other _ _ e]
  by_cases hp : (X.f k).pins = 0
  · refine (touch_zero S (H.1.more (Nat.le_succ m)) (by omega) hk h1 (S.more H.2.2 (Nat.le_succ m)) rfl hp).mono ?_
    rintro e w' ⟨he, hl⟩
    refine ⟨he, hl.mono (fun F' h' => ?_)⟩
    dsimp only [CT] at h'
    have hw : PW RR ok p (X.touch P k) (m + 3) w' F' := ⟨by
      unfold CT PS.touch
      dsimp only
      rw [e1, e2, e3, if_pos hp]
      exact h', hI, by
      unfold PS.touch
      dsimp only
      rw [if_pos hp]
      refine hE (ev := upd (evO X.f) k false) (S.more (S.okSet false (S.okOld H.2.2 (by omega) h1 hk rfl) (by omega) hk (by show ¬ (X.f k).id = 0; exact h0)) (by omega)) (fun i hi => rfl)⟩
    exact hw
  · have hI0 : idB p.n X.f k = false := by rw [idB_at hk]; simp [hp]
    refine (touch_more S (H.1.more (Nat.le_succ m)) (by omega) hk h1 (S.more H.2.2 (Nat.le_succ m)) rfl hp (by have := (H.1.me.bd.2 k).2.2; show (X.f k).pins < m + 1; exact Nat.lt_succ_of_le this)).mono ?_
    rintro e w' ⟨he, hl⟩
    refine ⟨he, hl.mono (fun F' h' => ?_)⟩
    dsimp only [CT] at h'
    have hw : PW RR ok p (X.touch P k) (m + 3) w' F' := ⟨by
      unfold CT PS.touch
      dsimp only
      rw [e1, e2, e3, if_neg hp, updB_id hI0]
      exact h', hI, by
      unfold PS.touch
      dsimp only
      rw [if_neg hp]
      refine hE (ev := evO X.f) (S.more (S.okOld H.2.2 (by omega) h1 hk rfl) (by omega)) (fun i hi => ?_)
      by_cases e : i = k
      · rw [e, upd_same]; unfold evO; simp [hp]
      · rw [upd_other _ _ e]⟩
    exact hw
set_option maxHeartbeats 1000000 in
theorem fe_no (H : PW RR ok p X m w F) {id : Nat} (hu : id < 4294967296) (hh : X.D.has id = false) : Calls Tryz.prog 21 #[p.ptr, .int .u32 id] w fun e w' => e = .returned (.int .i64 3) ∧ w = w' := by
  have HA := Lib.hid (find_none H.1.me hu (plO_none hh))
  unfold PP.ptr at *
  clear H S hh hu
  go_enter Tryz.func21, Tryz.ntmps21
  go_wp2_with fail
  refine HA.out.mono ?_
  rintro e w1 ⟨rfl, rfl⟩
  go_wp2
  go_returns
  exact ⟨rfl, rfl⟩
set_option maxHeartbeats 1000000 in
theorem fe_in (H : PW RR ok p X m w F) (hm : m < 60000) {id k : Nat} (hu : id < 4294967296) (hh : X.D.has id = true) (hk : frm p.n X.f id = some k) : Calls Tryz.prog 21 #[p.ptr, .int .u32 id] w fun e w' => e = .returned (.int .i64 0) ∧ Led (PW RR ok p (X.touch P k) (m + 3)) F w w' := by
  obtain ⟨h1, h2, h3⟩ := H.2.1.fpos hh hk
  have HA := Lib.hid (find_some H.1.me hu (plO_some hh hk))
  have HT := Lib.hid (touch_pw S H hm h1 (by omega))
  unfold PP.ptr at *
  clear H S hh hu hk h2
  go_enter Tryz.func21, Tryz.ntmps21
  go_wp2_with fail
  refine HA.out.mono ?_
  rintro e w1 ⟨rfl, rfl⟩
  have hne : ((k : Int) == (-1)) = false := by simp <;> omega
  go_wp2_with fail
  refine HT.out.mono ?_
  rintro e w1 ⟨rfl, hl⟩
  have HL := Lib.hid hl
  clear hl
  go_wp2
  go_returns
  exact ⟨rfl, HL.out⟩
set_option maxHeartbeats 1000000 in
theorem fe_all (H : PW RR ok p X m w F) {id : Nat} (hu : id < 4294967296) (hh : X.D.has id = true) (hk : frm p.n X.f id = none) (ha : X.all p.n = true) : Calls Tryz.prog 21 #[p.ptr, .int .u32 id] w fun e w' => e = .returned (.int .i64 6) ∧ w = w' := by
  have HA := Lib.hid (find_some H.1.me hu (plO_out hh hk))
  have hall := allp_calls H.1.me
  rw [show (CT p.n X).E = emB p.n X.f from rfl, show (CT p.n X).I = idB p.n X.f from rfl, X.all_eq, ha] at hall
  have HB := Lib.hid hall
  unfold PP.ptr at *
  clear H S hh hu hk hall
  go_enter Tryz.func21, Tryz.ntmps21
  go_wp2_with fail
  refine HA.out.mono ?_
  rintro e w1 ⟨rfl, rfl⟩
  go_wp2_with fail
  refine HB.out.mono ?_
  rintro e w1 ⟨rfl, rfl⟩
  go_wp2
  go_returns
  exact ⟨rfl, rfl⟩
theorem fe_room (H : PW RR ok p X m w F) (hm : m < 60000) {id : Nat} (hu : id < 4294967296) (hh : X.D.has id = true) (hk : frm p.n X.f id = none) (ha : ¬ X.all p.n = true) :
    Calls Tryz.prog 52 #[p.ptr, .int .u32 id] w (fun e w' => e = .returned (.tuple #[.int .i64 (plZ (X.room P p.n id).1.1), .int .i64 (X.room P p.n id).1.2]) ∧ Led (PW RR ok p (X.room P p.n id).2 (m + 6)) F w w') ∧
    (∀ i, i < p.n → ¬ ((X.room P p.n id).2.f i).id = id) ∧ (X.room P p.n id).2.D.has id = true ∧
    (∀ k, (X.room P p.n id).1.1 = some k → (X.room P p.n id).1.2 = 0 ∧ k < p.n ∧ (X.room P p.n id).2.f k = zF) ∧ ((X.room P p.n id).1.1 = none → ¬ (X.room P p.n id).1.2 = 0) := by
  have h1 := H.2.1.pos hh
  have hno := frm_none hk
  obtain ⟨r1, r2, r3, r4, r5, r6, r7, r8⟩ := room_inv S (D0 := X.D) H.2.1 (by omega) H.2.2 h1 hno ha
  refine ⟨(room_calls S (pl := plO p.n X.f X.D) H.1 H.2.1.inj (by omega) H.2.2 h1 hu hno ha).mono ?_, r3, by rw [r4]; exact hh, r7, fun q => (r8 q).1⟩
  rintro e w' ⟨he, hl⟩
  refine ⟨he, hl.mono (fun F' h' => ⟨?_, r1, r2⟩)⟩
  have e6 := r6 X.D H.2.1
  rw [e6, ← plO_D r4] at h'
  exact h'
set_option maxHeartbeats 1000000 in
theorem fe_fail (H : PW RR ok p X m w F) (hm : m < 60000) {id : Nat} (hu : id < 4294967296) (hh : X.D.has id = true) (hk : frm p.n X.f id = none) (ha : ¬ X.all p.n = true) (hr : (X.room P p.n id).1.1 = none) : Calls Tryz.prog 21 #[p.ptr, .int .u32 id] w fun e w' => e = .returned (.int .i64 (X.room P p.n id).1.2) ∧ Led (PW RR ok p (X.room P p.n id).2 (m + 6)) F w w' := by
  have HA := Lib.hid (find_some H.1.me hu (plO_out hh hk))
  have hall := allp_calls H.1.me
  rw [show (CT p.n X).E = emB p.n X.f from rfl, show (CT p.n X).I = idB p.n X.f from rfl, X.all_eq, Bool.eq_false_iff.2 ha] at hall
  have HB := Lib.hid hall
  obtain ⟨hc, _, _, _, r8⟩ := fe_room S H hm hu hh hk ha
  have HC := Lib.hid hc
  have r9 := r8 hr
  have hne : ((((X.room P p.n id).1.2 : Nat) : Int) == 0) = false := by simp <;> exact r9
  rw [hr, show plZ none = -1 from rfl] at HC
  generalize (X.room P p.n id).1.2 = er at *
  generalize (X.room P p.n id).2 = R at *
  unfold PP.ptr at *
  clear H S hh hu hk hall hc r8 r9 hr ha
  go_enter Tryz.func21, Tryz.ntmps21
  go_wp2_with fail
  refine HA.out.mono ?_
  rintro e w1 ⟨rfl, rfl⟩
  go_wp2_with fail
  refine HB.out.mono ?_
  rintro e w1 ⟨rfl, rfl⟩
  go_wp2_with fail
  refine HC.out.mono ?_
  rintro e w1 ⟨rfl, hl⟩
  have HL := Lib.hid hl
  clear hl
  go_wp2
  go_returns
  exact ⟨rfl, HL.out⟩
end
end Go.Proofs.YtnideelidfpicaaGreatDoor
namespace Go.Proofs.YtnideelidfpicaaGreatDoor
open Go.RowKit Go.Maps
set_option linter.unusedVariables false
set_option linter.unusedSimpArgs false
set_option linter.unusedSectionVars false
set_option maxRecDepth 100000
theorem upd_upd {α : Type} (f : Nat → α) (k : Nat) (x y : α) : upd (upd f k x) k y = upd f k y := by
  funext i
  by_cases e : i = k
  · rw [e, upd_same, upd_same]
  · rw [upd_other _ _ e, upd_other _ _ e, upd_other _ _ e]
theorem upd_id {α : Type} (f : Nat → α) (k : Nat) (x : α) (h : f k = x) : upd f k x = f := by
  funext i
  by_cases e : i = k
  · rw [e, upd_same, h]
  · rw [upd_other _ _ e]
section
variable {τ : Type} {P : Adv τ} {RR : World → τ → (Nat → Prop) → Prop} {ok : Nat → τ → (Nat → Nat) → (Nat → Bool) → Prop} {p : PP} (S : RepSys P RR p.pb p.rv p.n ok) {w w' : World} {m : Nat} {F : Nat → Prop} {X : PS τ} {T : PT τ}
include S
theorem enter_pw (H : PW RR ok p X m w F) (hm : m < 70000) (hm1 : 1 ≤ m) {k id : Nat} (hk : k < p.n) (hz : X.f k = zF) (hh : X.D.has id = true) (hu : id < 4294967296) (hno : ∀ i, i < p.n → ¬ (X.f i).id = id) : Calls Tryz.prog 54 #[p.ptr, .int .i64 k, .int .u32 id] w fun e w' => e = .returned (.tuple #[]) ∧ Led (PW RR ok p { X with f := upd X.f k ⟨id, 0, 1, false⟩, A := P.access X.A k id } (m + 1)) F w w' := by
  have h1 := H.2.1.pos hh
  have hk0 : (X.f k).id = 0 := by rw [hz]; rfl
  have hno' : ∀ i, i < p.n → ¬ pgO X.f i = id := hno
  refine (enter_calls S H.1 (by omega) hk h1 hu H.2.2 hk0 hno' hm1).mono ?_
  rintro e w' ⟨he, hl⟩
  refine ⟨he, hl.mono (fun F' h' => ?_)⟩
  dsimp only [CT] at h'
  have e3 : idB p.n X.f k = false := by rw [idB_at hk, hk0]; simp
  have hx : decide (id = 0) = false := decide_eq_false (by omega)
  have hw : PW RR ok p { X with f := upd X.f k ⟨id, 0, 1, false⟩, A := P.access X.A k id } (m + 1) w' F' := ⟨by
    unfold CT
    dsimp only
    rw [plO_enter (x := ⟨id, 0, 1, false⟩) H.2.1 hk hk0 hh hno, emB_upd hk, idB_upd hk]
    dsimp only
    rw [hx, show (decide (¬ id = 0) && decide (1 = 0)) = false from by simp, updB_id e3]
    exact h', H.2.1.enter hk hk0 hh hno (by show 0 < _; omega), by
    show ok (m + 1) (P.access X.A k id) (pgO (upd X.f k ⟨id, 0, 1, false⟩)) (evO (upd X.f k ⟨id, 0, 1, false⟩))
    rw [pgO_upd, evO_upd]
    exact S.okNew H.2.2 (by omega) h1 hk hk0 hno'⟩
  exact hw
theorem read_pw (H : PW RR ok p X m w F) (hm : m < 70000) {id : Nat} (hu : id < 4294967296) : Calls Tryz.prog 46 #[.pointer (some ⟨p.db, 0, none⟩), .int .u32 id] w fun e w' => e = .returned (.tuple #[.int .u64 (X.D.read id).1.1, .int .i64 (X.D.read id).1.2]) ∧ Led (PW RR ok p { X with D := (X.D.read id).2 } (m + 1)) F w w' := by
  refine (H.1.read S (by omega) hu).mono ?_
  rintro e w' ⟨he, hl⟩
  refine ⟨he, hl.mono (fun F' h' => ?_)⟩
  dsimp only [CT] at h'
  have hw : PW RR ok p { X with D := (X.D.read id).2 } (m + 1) w' F' := ⟨by
    unfold CT
    dsimp only
    rw [plO_D (fun x => RS.read_has X.D id x)]
    exact h', H.2.1.read id, S.more H.2.2 (by omega)⟩
  exact hw
theorem remove_pw (H : PW RR ok p X m w F) (hm : m < 70000) {k : Nat} (hk : k < p.n) (h0 : ¬ (X.f k).id = 0) : Calls Tryz.prog 59 #[p.ptr, .int .i64 k] w fun e w' => e = .returned (.tuple #[]) ∧ Led (PW RR ok p { X with f := upd X.f k zF, A := P.remove X.A k } (m + 1)) F w w' := by
  have hE : emB p.n X.f k = false := by rw [emB_at hk]; simp [h0]
  refine (remove_calls S H.1 (by omega) hk hE H.2.2 h0).mono ?_
  rintro e w' ⟨he, hl⟩
  refine ⟨he, hl.mono (fun F' h' => ?_)⟩
  dsimp only [CT] at h'
  have hw : PW RR ok p { X with f := upd X.f k zF, A := P.remove X.A k } (m + 1) w' F' := ⟨by
    unfold CT
    dsimp only
    rw [plO_vac H.2.1 hk h0, emB_upd hk, idB_upd hk]
    exact h', H.2.1.vac hk, by
    show ok (m + 1) (P.remove X.A k) (pgO (upd X.f k zF)) (evO (upd X.f k zF))
    rw [pgO_upd, evO_upd]
    refine S.same (S.okRem H.2.2 (by omega) hk h0) (fun i hi => rfl) (fun i hi q => ?_)
    by_cases e : i = k
    · rw [e, upd_same] at q; exact absurd rfl q
    · rw [upd_other _ _ e, upd_other _ _ e]⟩
  exact hw
/-- Cells of a frame are written; its page and its pins stay. -/
theorem cell_pw (H : PW RR ok p X m w F) {k : Nat} (hk : k < p.n) (h0 : ¬ (X.f k).id = 0) {x : FrS} (hx : x.id = (X.f k).id) (hp : x.pins = (X.f k).pins) (hxv : x.val < 18446744073709551616) (h : MP w' p (upd X.f k x) (CT p.n X).pl (CT p.n X).E (CT p.n X).I X.sc (m + 1)) (g : Fr p.own w w') : Led (PW RR ok p { X with f := upd X.f k x } (m + 1)) F w w' := by
  refine (H.1.set h g (Nat.le_succ m) S).mono (fun F' h' => ?_)
  dsimp only [CT] at h'
  have hw : PW RR ok p { X with f := upd X.f k x } (m + 1) w' F' := ⟨by
    unfold CT
    dsimp only
    rw [plO_same hk hx, emB_upd hk, idB_upd hk, hx, hp, updB_id (emB_at hk), updB_id (idB_at hk)]
    exact h', H.2.1.keep hk hx h0 hxv, by
    show ok (m + 1) X.A (pgO (upd X.f k x)) (evO (upd X.f k x))
    rw [pgO_upd, evO_upd, hx, hp]
    refine S.same (S.more H.2.2 (Nat.le_succ m)) (fun i hi => ?_) (fun i hi q => ?_)
    · by_cases e : i = k
      · rw [e, upd_same]; rfl
      · rw [upd_other _ _ e]
    · by_cases e : i = k
      · rw [e, upd_same]; rfl
      · rw [upd_other _ _ e]⟩
  exact hw
set_option maxHeartbeats 1000000 in
theorem fe_err (H : PW RR ok p X m w F) (hm : m < 60000) {id k : Nat} (hu : id < 4294967296) (hh : X.D.has id = true) (hk : frm p.n X.f id = none) (ha : ¬ X.all p.n = true) (hr : (X.room P p.n id).1.1 = some k) (hq : ¬ ((X.room P p.n id).2.D.read id).1.2 = 0) : Calls Tryz.prog 21 #[p.ptr, .int .u32 id] w fun e w' => e = .returned (.int .i64 ((X.room P p.n id).2.D.read id).1.2) ∧
    Led (PW RR ok p { (X.room P p.n id).2 with D := ((X.room P p.n id).2.D.read id).2, A := P.remove (P.access (X.room P p.n id).2.A k id) k } (m + 10)) F w w' := by
  have HA := Lib.hid (find_some H.1.me hu (plO_out hh hk))
  have hall := allp_calls H.1.me
  rw [show (CT p.n X).E = emB p.n X.f from rfl, show (CT p.n X).I = idB p.n X.f from rfl, X.all_eq, Bool.eq_false_iff.2 ha] at hall
  have HB := Lib.hid hall
  have h1 := H.2.1.pos hh
  obtain ⟨hc, r3, r4, r7, _⟩ := fe_room S H hm hu hh hk ha
  obtain ⟨r9, r10, r11⟩ := r7 k hr
  have HC := Lib.hid hc
  rw [hr, r9, show plZ (some k) = (k : Int) from rfl] at HC
  clear r7 hc hr r9
  generalize (X.room P p.n id).2 = R at *
  have HE : Hid (∀ w1 F1, PW RR ok p R (m + 6) w1 F1 → Calls Tryz.prog 54 #[p.ptr, .int .i64 k, .int .u32 id] w1 fun e w' => e = .returned (.tuple #[]) ∧ Led (PW RR ok p { R with f := upd R.f k ⟨id, 0, 1, false⟩, A := P.access R.A k id } (m + 7)) F1 w1 w') := fun w1 F1 h => enter_pw S h (by omega) (by omega) r10 r11 r4 hu r3
  have HR : Hid (∀ w1 F1, PW RR ok p { R with f := upd R.f k ⟨id, 0, 1, false⟩, A := P.access R.A k id } (m + 7) w1 F1 → Calls Tryz.prog 46 #[.pointer (some ⟨p.db, 0, none⟩), .int .u32 id] w1 fun e w' => e = .returned (.tuple #[.int .u64 (R.D.read id).1.1, .int .i64 (R.D.read id).1.2]) ∧ Led (PW RR ok p { R with f := upd R.f k ⟨id, 0, 1, false⟩, A := P.access R.A k id, D := (R.D.read id).2 } (m + 8)) F1 w1 w') := fun w1 F1 h => read_pw S h (by omega) hu
  have HM : Hid (∀ w1 F1, PW RR ok p { R with f := upd R.f k ⟨id, 0, 1, false⟩, A := P.access R.A k id, D := (R.D.read id).2 } (m + 8) w1 F1 → Calls Tryz.prog 59 #[p.ptr, .int .i64 k] w1 fun e w' => e = .returned (.tuple #[]) ∧ Led (PW RR ok p { R with D := (R.D.read id).2, A := P.remove (P.access R.A k id) k } (m + 10)) F1 w1 w') := fun w1 F1 h => by
    refine (remove_pw S h (by omega) r10 (by dsimp only; rw [upd_same]; show ¬ id = 0; omega)).mono ?_
    rintro e w' ⟨he, hl⟩
    refine ⟨he, hl.mono (fun F' h' => ?_)⟩
    dsimp only at h'
    rw [upd_upd, upd_id _ _ _ r11] at h'
    exact h'.more S (by omega)
  have hne : ((((R.D.read id).1.2 : Nat) : Int) == 0) = false := by simp <;> exact hq
  have KC : Hid (∀ (Y : PS τ) j w1 F1, PW RR ok p Y j w1 F1 → w1.cell? ⟨p.pb, 0, none⟩ = some (.pointer (some ⟨p.db, 0, none⟩)) ∧ p.pb < w1.heap.size) := fun Y j w1 F1 h => h.1.c0
  unfold PP.ptr at *
  clear H S hh hu hk hall ha r3 r4 r10 r11 hq h1
  go_enter Tryz.func21, Tryz.ntmps21
  go_wp2_with fail
  refine HA.out.mono ?_
  rintro e w1 ⟨rfl, rfl⟩
  go_wp2_with fail
  refine HB.out.mono ?_
  rintro e w1 ⟨rfl, rfl⟩
  go_wp2_with fail
  refine HC.out.mono ?_
  rintro e w1 ⟨rfl, F1, h1, g1, k1⟩
  have HE1 := Lib.hid (HE.out w1 F1 h1)
  have G1 := Lib.hid g1
  have K1 := Lib.hid k1
  clear h1 g1 k1 HE
  go_wp2_with fail
  refine HE1.out.mono ?_
  rintro e w2 ⟨rfl, F2, h2, g2, k2⟩
  have HR2 := Lib.hid (HR.out w2 F2 h2)
  obtain ⟨c2, lb2⟩ := KC.out _ _ w2 F2 h2
  have G2 := Lib.hid g2
  have K2 := Lib.hid k2
  clear h2 g2 k2 HR HE1
  go_wp2_with fail
  refine HR2.out.mono ?_
  rintro e w3 ⟨rfl, F3, h3, g3, k3⟩
  have HM3 := Lib.hid (HM.out w3 F3 h3)
  have G3 := Lib.hid g3
  have K3 := Lib.hid k3
  clear h3 g3 k3 HM HR2
  go_wp2_with fail
  refine HM3.out.mono ?_
  rintro e w4 ⟨rfl, hl⟩
  have HL := Lib.hid hl
  clear hl
  go_wp2
  go_returns
  exact ⟨rfl, Led.trans (R := fun _ _ => True) G1.out K1.out (Led.trans (R := fun _ _ => True) G2.out K2.out (Led.trans (R := fun _ _ => True) G3.out K3.out HL.out))⟩
set_option maxHeartbeats 1000000 in
theorem fe_ok (H : PW RR ok p X m w F) (hm : m < 60000) {id k : Nat} (hu : id < 4294967296) (hh : X.D.has id = true) (hk : frm p.n X.f id = none) (ha : ¬ X.all p.n = true) (hr : (X.room P p.n id).1.1 = some k) (hq : ((X.room P p.n id).2.D.read id).1.2 = 0) (hv : ((X.room P p.n id).2.D.read id).1.1 < 18446744073709551616) : Calls Tryz.prog 21 #[p.ptr, .int .u32 id] w fun e w' => e = .returned (.int .i64 0) ∧
    Led (PW RR ok p { (X.room P p.n id).2 with f := upd (X.room P p.n id).2.f k ⟨id, ((X.room P p.n id).2.D.read id).1.1, 1, false⟩, D := ((X.room P p.n id).2.D.read id).2, A := P.access (X.room P p.n id).2.A k id } (m + 10)) F w w' := by
  have HA := Lib.hid (find_some H.1.me hu (plO_out hh hk))
  have hall := allp_calls H.1.me
  rw [show (CT p.n X).E = emB p.n X.f from rfl, show (CT p.n X).I = idB p.n X.f from rfl, X.all_eq, Bool.eq_false_iff.2 ha] at hall
  have HB := Lib.hid hall
  have h1 := H.2.1.pos hh
  have hn := H.1.me.hn
  obtain ⟨hc, r3, r4, r7, _⟩ := fe_room S H hm hu hh hk ha
  obtain ⟨r9, r10, r11⟩ := r7 k hr
  have HC := Lib.hid hc
  rw [hr, r9, show plZ (some k) = (k : Int) from rfl] at HC
  clear r7 hc hr r9
  generalize (X.room P p.n id).2 = R at *
  have HE : Hid (∀ w1 F1, PW RR ok p R (m + 6) w1 F1 → Calls Tryz.prog 54 #[p.ptr, .int .i64 k, .int .u32 id] w1 fun e w' => e = .returned (.tuple #[]) ∧ Led (PW RR ok p { R with f := upd R.f k ⟨id, 0, 1, false⟩, A := P.access R.A k id } (m + 7)) F1 w1 w') := fun w1 F1 h => enter_pw S h (by omega) (by omega) r10 r11 r4 hu r3
  have HR : Hid (∀ w1 F1, PW RR ok p { R with f := upd R.f k ⟨id, 0, 1, false⟩, A := P.access R.A k id } (m + 7) w1 F1 → Calls Tryz.prog 46 #[.pointer (some ⟨p.db, 0, none⟩), .int .u32 id] w1 fun e w' => e = .returned (.tuple #[.int .u64 (R.D.read id).1.1, .int .i64 0]) ∧ Led (PW RR ok p { R with f := upd R.f k ⟨id, 0, 1, false⟩, A := P.access R.A k id, D := (R.D.read id).2 } (m + 8)) F1 w1 w') := fun w1 F1 h => by
    have := read_pw S h (by omega) hu
    dsimp only at this
    rw [hq] at this
    exact this
  have HM : Hid (∀ w1 F1, PW RR ok p { R with f := upd R.f k ⟨id, 0, 1, false⟩, A := P.access R.A k id, D := (R.D.read id).2 } (m + 8) w1 F1 → Led (PW RR ok p { R with f := upd R.f k ⟨id, (R.D.read id).1.1, 1, false⟩, D := (R.D.read id).2, A := P.access R.A k id } (m + 10)) F1 w1 (w1.setCell ⟨p.fb, k * 4 + 1, none⟩ (.int .u64 (R.D.read id).1.1))) := fun w1 F1 h => by
    have he : upd (frV (upd R.f k ⟨id, 0, 1, false⟩)) (k * 4 + 1) (.int .u64 (R.D.read id).1.1) = frV (upd (upd R.f k ⟨id, 0, 1, false⟩) k ⟨id, (R.D.read id).1.1, 1, false⟩) := by
      have := frV_setv (upd R.f k ⟨id, 0, 1, false⟩) k (R.D.read id).1.1
      rw [upd_same] at this
      exact this
    obtain ⟨q1, q2⟩ := h.1.me.put1 (m' := m + 9) (j := 1) r10 ⟨id, (R.D.read id).1.1, 1, false⟩ _ he (by omega) ⟨hu, hv, by show 1 ≤ m + 9; omega⟩
    refine (cell_pw S h (x := ⟨id, (R.D.read id).1.1, 1, false⟩) r10 (by dsimp only; rw [upd_same]; show ¬ id = 0; omega) (by dsimp only; rw [upd_same]) (by dsimp only; rw [upd_same]) hv q1 (q2.mono (fun i q => .inr (.inl q)))).mono (fun F' h' => ?_)
    dsimp only at h'
    rw [upd_upd] at h'
    exact h'.more S (by omega)
  have KC : Hid (∀ (Y : PS τ) j w1 F1, PW RR ok p Y j w1 F1 → w1.cell? ⟨p.pb, 0, none⟩ = some (.pointer (some ⟨p.db, 0, none⟩)) ∧ p.pb < w1.heap.size) := fun Y j w1 F1 h => h.1.c0
  have KD : Hid (∀ (Y : PS τ) j w1 F1, PW RR ok p Y j w1 F1 → w1.cell? ⟨p.pb, 2, none⟩ = some (.slice (some ⟨p.fb, 0, none⟩) p.n p.n) ∧ p.fb < w1.heap.size ∧ w1.cell? ⟨p.fb, k * 4 + 1, none⟩ = some (.int .u64 (Y.f k).val) ∧ w1.frozen? ⟨p.fb, k * 4 + 1, none⟩ = false) := fun Y j w1 F1 h => ⟨h.1.me.ce 2 (by omega), h.1.me.fr.lt, (h.1.me.cf r10).2.1, h.1.me.fr.frozen _⟩
  unfold PP.ptr at *
  clear H S hh hu hk hall ha r3 r4 r11 hq h1 hv
  go_enter Tryz.func21, Tryz.ntmps21
  go_wp2_with fail
  refine HA.out.mono ?_
  rintro e w1 ⟨rfl, rfl⟩
  go_wp2_with fail
  refine HB.out.mono ?_
  rintro e w1 ⟨rfl, rfl⟩
  go_wp2_with fail
  refine HC.out.mono ?_
  rintro e w1 ⟨rfl, F1, h1, g1, k1⟩
  have HE1 := Lib.hid (HE.out w1 F1 h1)
  have G1 := Lib.hid g1
  have K1 := Lib.hid k1
  clear h1 g1 k1 HE
  go_wp2_with fail
  refine HE1.out.mono ?_
  rintro e w2 ⟨rfl, F2, h2, g2, k2⟩
  have HR2 := Lib.hid (HR.out w2 F2 h2)
  obtain ⟨c2, lb2⟩ := KC.out _ _ w2 F2 h2
  have G2 := Lib.hid g2
  have K2 := Lib.hid k2
  clear h2 g2 k2 HR HE1
  go_wp2_with fail
  refine HR2.out.mono ?_
  rintro e w3 ⟨rfl, F3, h3, g3, k3⟩
  have HM3 := Lib.hid (HM.out w3 F3 h3)
  obtain ⟨c3, lb3⟩ := KC.out _ _ w3 F3 h3
  obtain ⟨d1, d2, d3, d4⟩ := KD.out _ _ w3 F3 h3
  have G3 := Lib.hid g3
  have K3 := Lib.hid k3
  clear h3 g3 k3 HM HR2
  go_wp2
  go_returns
  exact ⟨rfl, Led.trans (R := fun _ _ => True) G1.out K1.out (Led.trans (R := fun _ _ => True) G2.out K2.out (Led.trans (R := fun _ _ => True) G3.out K3.out HM3.out))⟩
theorem fe_calls (H : PW RR ok p X m w F) (hm : m < 60000) {id : Nat} (hu : id < 4294967296) : Calls Tryz.prog 21 #[p.ptr, .int .u32 id] w fun e w' => e = .returned (.int .i64 (X.fetch P p.n id).1) ∧ Led (PW RR ok p (X.fetch P p.n id).2 (m + 10)) F w w' := by
  unfold PS.fetch
  by_cases hh : X.D.has id = true
  · rw [if_pos hh]
    cases hk : frm p.n X.f id with
    | some k =>
      refine (fe_in S H hm hu hh hk).mono ?_
      rintro e w' ⟨he, hl⟩
      exact ⟨he, hl.mono (fun F' h => h.more S (by omega))⟩
    | none =>
      dsimp only
      by_cases ha : X.all p.n = true
      · rw [if_pos ha]
        refine (fe_all S H hu hh hk ha).mono ?_
        rintro e w' ⟨he, rfl⟩
        exact ⟨he, Led.refl (H.more S (by omega))⟩
      · rw [if_neg ha]
        have hno := frm_none hk
        obtain ⟨r1, _⟩ := room_inv S (D0 := X.D) H.2.1 (by omega) H.2.2 (H.2.1.pos hh) hno ha
        cases hr : (X.room P p.n id).1.1 with
        | none =>
          refine (fe_fail S H hm hu hh hk ha hr).mono ?_
          rintro e w' ⟨he, hl⟩
          exact ⟨he, hl.mono (fun F' h => h.more S (by omega))⟩
        | some k =>
          dsimp only
          by_cases hq : ((X.room P p.n id).2.D.read id).1.2 = 0
          · rw [if_pos hq]
            exact fe_ok S H hm hu hh hk ha hr hq (RS.read_v r1.vd)
          · rw [if_neg hq]
            exact fe_err S H hm hu hh hk ha hr hq
  · rw [if_neg hh]
    refine (fe_no S H hu (by simpa using hh)).mono ?_
    rintro e w' ⟨he, rfl⟩
    exact ⟨he, Led.refl (H.more S (by omega))⟩
end
end Go.Proofs.YtnideelidfpicaaGreatDoor
namespace Go.Proofs.YtnideelidfpicaaGreatDoor
open Go.RowKit Go.Maps
set_option linter.unusedVariables false
set_option linter.unusedSimpArgs false
set_option linter.unusedSectionVars false
set_option maxRecDepth 100000
section
variable {τ : Type} {P : Adv τ} {RR : World → τ → (Nat → Prop) → Prop} {ok : Nat → τ → (Nat → Nat) → (Nat → Bool) → Prop} {p : PP} (S : RepSys P RR p.pb p.rv p.n ok) {w w' : World} {m : Nat} {F : Nat → Prop} {X : PS τ} {T : PT τ}
theorem held_case {n : Nat} (H : Inv n X.f X.D) (id : Nat) : ((X.held n id).2 = 0 ∧ (X.held n id).1 < n ∧ plO n X.f X.D id = some ((X.held n id).1 : Int) ∧ ¬ (X.f (X.held n id).1).pins = 0 ∧ (X.f (X.held n id).1).id = id ∧ 1 ≤ id ∧ X.D.has id = true ∧ frm n X.f id = some (X.held n id).1) ∨ (¬ (X.held n id).2 = 0 ∧ HeldNo n X.f (plO n X.f X.D) id (X.held n id).2) := by
  unfold PS.held
  by_cases hh : X.D.has id = true
  · rw [if_pos hh]
    cases hk : frm n X.f id with
    | none => exact .inr ⟨by show ¬ 5 = 0; omega, .inr (.inl ⟨plO_out hh hk, rfl⟩)⟩
    | some k =>
      obtain ⟨h1, h2, h3⟩ := H.fpos hh hk
      dsimp only
      by_cases hp : (X.f k).pins = 0
      · rw [if_pos hp]
        exact .inr ⟨by show ¬ 5 = 0; omega, .inr (.inr ⟨k, h1, plO_some hh hk, hp, rfl⟩)⟩
      · rw [if_neg hp]
        exact .inl ⟨rfl, h1, plO_some hh hk, hp, h2, h3, hh, rfl⟩
  · rw [if_neg hh]
    exact .inr ⟨by show ¬ 3 = 0; omega, .inl ⟨plO_none (by simpa using hh), rfl⟩⟩
include S
set_option maxHeartbeats 1000000 in
theorem un_no (H : PW RR ok p X m w F) {id e0 : Nat} (hu : id < 4294967296) (h0 : ¬ e0 = 0) (hh : HeldNo p.n X.f (plO p.n X.f X.D) id e0) : Calls Tryz.prog 20 #[p.ptr, .int .u32 id] w fun e w' => e = .returned (.int .i64 e0) ∧ Fr NoF w w' := by
  have HA := Lib.hid (held_no H.1.me hu hh)
  have hne : (((e0 : Nat) : Int) == 0) = false := by simp <;> exact h0
  unfold PP.ptr at *
  clear H S hh hu
  go_enter Tryz.func20, Tryz.ntmps20
  go_wp2_with fail
  refine HA.out.mono ?_
  rintro e w1 ⟨rfl, rfl⟩
  go_wp2
  go_returns
  exact ⟨rfl, (Fr.refl NoF w).alloc _⟩
set_option maxHeartbeats 4000000 in
theorem un_last (H : PW RR ok p X m w F) (hm : m < 60000) {id k : Nat} (hu : id < 4294967296) (hk : k < p.n) (hpl : plO p.n X.f X.D id = some (k : Int)) (hid : (X.f k).id = id) (h1 : 1 ≤ id) (hp : (X.f k).pins = 1) : Calls Tryz.prog 20 #[p.ptr, .int .u32 id] w fun e w' => e = .returned (.int .i64 0) ∧
    Led (PW RR ok p { X with f := upd X.f k { X.f k with pins := (X.f k).pins - 1 }, A := P.set X.A k true } (m + 4)) F w w' := by
  have HA := Lib.hid (held_yes H.1.me hu hk hpl (by show ¬ (X.f k).pins = 0; omega))
  obtain ⟨b1, b3, b4⟩ := box1 w (.int .i64 k) 3
  have H1 := H.1.fr0 S b4
  have lb := H1.me.hd.lt
  have lf := H1.me.fr.lt
  have hlt := H.1.lt S
  have c2 : (w.alloc (.cells #[.int .i64 k] 3)).cell? ⟨p.pb, 2, none⟩ = some (.slice (some ⟨p.fb, 0, none⟩) p.n p.n) := H1.me.ce 2 (by omega)
  have hn := H.1.me.hn
  obtain ⟨e0, e1, e2, e3⟩ := H1.me.cf hk
  have z2 := H1.me.fr.frozen (k * 4 + 2)
  have hnF1 : ¬ F w.heap.size := fun q => by have := hlt _ q; omega
  have hid0 : ¬ (X.f k).id = 0 := by omega
  have hbf := H.1.me.bd.2 k
  have KP : Hid (∀ z : Int, z = (((X.f k).pins - 1 : Nat) : Int) → PI RR p { CT p.n X with f := upd X.f k { X.f k with pins := (X.f k).pins - 1 } } m ((w.alloc (.cells #[.int .i64 k] 3)).setCell ⟨p.fb, k * 4 + 2, none⟩ (.int .i64 z)).drew F ∧ Fr F (w.alloc (.cells #[.int .i64 k] 3)) ((w.alloc (.cells #[.int .i64 k] 3)).setCell ⟨p.fb, k * 4 + 2, none⟩ (.int .i64 z)).drew) := fun z hz => by
    subst hz
    obtain ⟨q1, q2⟩ := H1.me.put1 (m' := m) (j := 2) hk { X.f k with pins := (X.f k).pins - 1 } (.int .i64 (((X.f k).pins - 1 : Nat) : Int)) (frV_setp X.f k _) (Nat.le_refl _) ⟨hbf.1, hbf.2.1, Nat.le_trans (Nat.sub_le _ _) hbf.2.2⟩
    obtain ⟨FD, FR, h, hF⟩ := H1
    have g : Fr p.own (w.alloc (.cells #[.int .i64 k] 3)) ((w.alloc (.cells #[.int .i64 k] 3)).setCell ⟨p.fb, k * 4 + 2, none⟩ (.int .i64 (((X.f k).pins - 1 : Nat) : Int))).drew := (q2.drew).mono (fun i q => .inr (.inl q))
    exact ⟨⟨FD, FR, ⟨q1.fr0 ((Fr.refl NoF _).drew), h.cd.fr g (fun i q k => (h.s1 i k).1 q), S.fr h.rr g (fun i q k => (h.s1 i k).2 q), h.s1, h.s2, h.t1⟩, hF⟩, g.mono (fun i q => (hF i).2 (.inl q))⟩
  have KX : Hid (∀ w3 F3, PI RR p { CT p.n X with f := upd X.f k { X.f k with pins := (X.f k).pins - 1 } } m w3 F3 → w3.cell? ⟨p.pb, 2, none⟩ = some (.slice (some ⟨p.fb, 0, none⟩) p.n p.n) ∧ w3.cell? ⟨p.fb, k * 4 + 2, none⟩ = some (.int .i64 ((X.f k).pins - 1 : Nat)) ∧ p.pb < w3.heap.size ∧ p.fb < w3.heap.size) :=
    fun w3 F3 h3 => ⟨h3.me.ce 2 (by omega), by have := (h3.me.cf hk).2.2.1; dsimp only at this; rw [upd_same] at this; exact this, h3.me.hd.lt, h3.me.fr.lt⟩
  have HS : Hid (∀ w3 F3, PI RR p { CT p.n X with f := upd X.f k { X.f k with pins := (X.f k).pins - 1 } } m w3 F3 → PI RR p { CT p.n X with f := upd X.f k { X.f k with pins := (X.f k).pins - 1 } } m w3.drew F3) := fun w3 F3 h3 => h3.fr0 S ((Fr.refl NoF _).drew)
  have e1 : plO p.n (upd X.f k { X.f k with pins := (X.f k).pins - 1 }) X.D = plO p.n X.f X.D := plO_same hk rfl
  have e2 : emB p.n (upd X.f k { X.f k with pins := (X.f k).pins - 1 }) = emB p.n X.f := by
    rw [emB_upd hk]
    exact updB_id (emB_at hk)
  have hI : Inv p.n (upd X.f k { X.f k with pins := (X.f k).pins - 1 }) X.D := H.2.1.keep hk rfl hid0 (H.2.1.vf k hk)
  have e3 : idB p.n (upd X.f k { X.f k with pins := (X.f k).pins - 1 }) = updB (idB p.n X.f) k true := by
    rw [idB_upd hk]
    congr 1
    simp [hid0, hp]
  have hI0 : idB p.n X.f k = false := by rw [idB_at hk]; simp [hp]
  have okS := S.okSet true H.2.2 (by omega) hk (show ¬ pgO X.f k = 0 from hid0)
  have hE : ok (m + 1) (P.set X.A k true) (pgO (upd X.f k { X.f k with pins := (X.f k).pins - 1 })) (evO (upd X.f k { X.f k with pins := (X.f k).pins - 1 })) := by
    refine S.same okS (fun i hi => ?_) (fun i hi _ => ?_)
    · rw [pgO_upd]
      by_cases e : i = k
      · rw [e, upd_same]; rfl
      · rw [upd_other _ _ e]
    · rw [evO_upd]
      by_cases e : i = k
      · rw [e, upd_same, upd_same]; simp [hp]
      · rw [upd_other _ _ e, upd_other _ _ e]
  have KD : Hid (∀ w3 F3, PI RR p { CT p.n X with f := upd X.f k { X.f k with pins := (X.f k).pins - 1 } } m w3 F3 → Calls Tryz.prog 55 #[.pointer (some ⟨p.pb, 7, none⟩), .int .i64 k] w3 fun e w' => e = .returned (.tuple #[]) ∧ Led (PI RR p { CT p.n X with f := upd X.f k { X.f k with pins := (X.f k).pins - 1 }, I := updB (idB p.n X.f) k true } m) F3 w3 w') := fun w3 F3 h3 => by
    refine (mp_addI h3.me hk hI0).mono ?_
    rintro e w4 ⟨he, h4, g4⟩
    exact ⟨he, h3.set h4 g4 (Nat.le_refl _) S⟩
  have KT : Hid (∀ w3 F3, PI RR p { CT p.n X with f := upd X.f k { X.f k with pins := (X.f k).pins - 1 }, I := updB (idB p.n X.f) k true } m w3 F3 → w3.cell? ⟨w.heap.size, 0, none⟩ = some (.int .i64 k) → w.heap.size < w3.heap.size → ¬ F3 w.heap.size →
    Calls Tryz.prog 56 #[p.ptr, .func (.func 57) #[] #[.pointer (some ⟨w.heap.size, 0, none⟩)]] w3 fun e w' => e = .returned (.tuple #[]) ∧ Led (PW RR ok p { X with f := upd X.f k { X.f k with pins := (X.f k).pins - 1 }, A := P.set X.A k true } (m + 4)) F3 w3 w') :=
    fun w3 F3 h3 q1 q2 q3 => by
    refine (h3.tell1 S own_u1 (fun FR hr hF => S.setT hr H.2.2 (by omega) hk (show ¬ pgO X.f k = 0 from hid0) q1 q2 (fun q => q3 (hF _ q)) (.inr rfl))).mono ?_
    rintro e w' ⟨he, hl⟩
    refine ⟨he, hl.mono (fun F' h' => ?_)⟩
    dsimp only [CT] at h'
    have hw : PW RR ok p { X with f := upd X.f k { X.f k with pins := (X.f k).pins - 1 }, A := P.set X.A k true } (m + 1) w' F' := ⟨by
      unfold CT
      dsimp only
      rw [e1, e2, e3]
      exact h'.more (by omega), hI, hE⟩
    exact hw.more S (by omega)
  have hpm : (X.f k).pins < 900000 := by have q : (X.f k).pins ≤ m := hbf.2.2; omega
  have e2' : (w.alloc (.cells #[.int .i64 k] 3)).cell? ⟨p.fb, k * 4 + 2, none⟩ = some (.int .i64 (X.f k).pins) := (H1.me.cf hk).2.2.1
  have hcp : ((((X.f k).pins - 1 : Nat) : Int)) = 0 := by omega
  have hp1 : 1 ≤ (X.f k).pins := by omega
  generalize hxp : (X.f k).pins = xp at *
  have B4 := Lib.hid b4
  have HP := Lib.hid hpm
  generalize hw2 : (w.alloc (.cells #[.int .i64 k] 3)) = w2 at *
  unfold PP.ptr at *
  clear H H1 S hlt b4 hu hbf hpl hid h1 hid0 e0 e1 e2 e3 hI hE hxp hp hI0
  go_enter Tryz.func20, Tryz.ntmps20
  go_wp2_with fail
  refine HA.out.mono ?_
  rintro e w1 ⟨rfl, rfl⟩
  have hcw : IntKind.i64.wrap ((xp : Int) - 1) = (xp : Int) - 1 := IntWalk.i64_in _ (by omega)
  go_wp2_with fail
  try rw [hw2]
  clear hw2
  go_region
  all_goals
    obtain ⟨hA, gA⟩ := KP.out ((xp : Int) - 1) (by omega)
    generalize (w2.setCell ⟨p.fb, k * 4 + 2, none⟩ (.int .i64 ((xp : Int) - 1))).drew = wA at hA gA ⊢
    obtain ⟨y1, y2, y3, y4⟩ := KX.out wA F hA
    have y6 : wA.cell? ⟨w.heap.size, 0, none⟩ = some (.int .i64 k) := by rw [gA.cell (p := ⟨w.heap.size, 0, none⟩) (by show w.heap.size < _; omega) hnF1]; exact b1
    have y7 := gA.size
    have H3 := Lib.hid hA
    have G3 := Lib.hid gA
    clear hA gA KP c2 e2' z2 lb lf e3
    go_wp2_with fail
    rw [hcp] at y2
    go_region
    all_goals
      go_wp2_with fail
      have y6d : wA.drew.cell? ⟨w.heap.size, 0, none⟩ = some (.int .i64 k) := y6
      have y4d : p.pb < wA.drew.heap.size := y3
      have y7d : w2.heap.size ≤ wA.drew.heap.size := y7
      have H3d := Lib.hid (HS.out _ _ H3.out)
      have FD : Hid (Fr F wA wA.drew) := (Fr.refl _ wA).drew
      generalize wA.drew = w3d at y6d y4d y7d H3d FD ⊢
      clear y1 y2 y3 y4 y6
      go_still_tail 4, (by kernel_rfl)
      go_wp2_with fail
      refine (KD.out _ F (HS.out _ _ H3d.out)).mono ?_
      rintro e w4 ⟨rfl, F4, h4, g4, q4⟩
      have z6 : w4.cell? ⟨w.heap.size, 0, none⟩ = some (.int .i64 k) := by rw [g4.cell (p := ⟨w.heap.size, 0, none⟩) (by show w.heap.size < w3d.heap.size; omega) hnF1]; exact y6d
      have z8 : w.heap.size < w4.heap.size := Nat.lt_of_lt_of_le (by show w.heap.size < w3d.heap.size; omega) g4.size
      have n4 : ¬ F4 w.heap.size := fun q => (q4 _ q).elim hnF1 (fun q => by have : w3d.heap.size ≤ w.heap.size := q; omega)
      have HT := Lib.hid (KT.out w4 F4 h4 z6 z8 n4)
      have G4 := Lib.hid g4
      have Q4 := Lib.hid q4
      clear h4 g4 q4 KD KT z6
      go_wp2_with fail
      refine HT.out.mono ?_
      rintro e w5 ⟨rfl, h5⟩
      have H5 := Lib.hid h5
      clear h5
      go_wp2
      go_returns
      exact ⟨rfl, Led.trans (R := fun _ _ => True) (B4.out.mono (fun _ q => q.elim)) (fun i q => .inl q) (Led.trans (R := fun _ _ => True) G3.out (fun i q => .inl q) (Led.trans (R := fun _ _ => True) (FD.out.trans (((Fr.refl _ w3d).drew).trans G4.out (fun i q => .inl q)) (fun i q => .inl q)) (fun i q => (Q4.out i q).imp (fun q => q) (fun q => by have : w3d.heap.size ≤ i := q; have := FD.out.size; omega)) H5.out))⟩
set_option maxHeartbeats 4000000 in
theorem un_more (H : PW RR ok p X m w F) (hm : m < 60000) {id k : Nat} (hu : id < 4294967296) (hk : k < p.n) (hpl : plO p.n X.f X.D id = some (k : Int)) (hid : (X.f k).id = id) (h1 : 1 ≤ id) (hp : 2 ≤ (X.f k).pins) : Calls Tryz.prog 20 #[p.ptr, .int .u32 id] w fun e w' => e = .returned (.int .i64 0) ∧
    Led (PW RR ok p { X with f := upd X.f k { X.f k with pins := (X.f k).pins - 1 } } (m + 4)) F w w' := by
  have HA := Lib.hid (held_yes H.1.me hu hk hpl (by show ¬ (X.f k).pins = 0; omega))
  obtain ⟨b1, b3, b4⟩ := box1 w (.int .i64 k) 3
  have H1 := H.1.fr0 S b4
  have lb := H1.me.hd.lt
  have lf := H1.me.fr.lt
  have hlt := H.1.lt S
  have c2 : (w.alloc (.cells #[.int .i64 k] 3)).cell? ⟨p.pb, 2, none⟩ = some (.slice (some ⟨p.fb, 0, none⟩) p.n p.n) := H1.me.ce 2 (by omega)
  have hn := H.1.me.hn
  obtain ⟨e0, e1, e2, e3⟩ := H1.me.cf hk
  have z2 := H1.me.fr.frozen (k * 4 + 2)
  have hnF1 : ¬ F w.heap.size := fun q => by have := hlt _ q; omega
  have hid0 : ¬ (X.f k).id = 0 := by omega
  have hbf := H.1.me.bd.2 k
  have KP : Hid (∀ z : Int, z = (((X.f k).pins - 1 : Nat) : Int) → PI RR p { CT p.n X with f := upd X.f k { X.f k with pins := (X.f k).pins - 1 } } m ((w.alloc (.cells #[.int .i64 k] 3)).setCell ⟨p.fb, k * 4 + 2, none⟩ (.int .i64 z)).drew F ∧ Fr F (w.alloc (.cells #[.int .i64 k] 3)) ((w.alloc (.cells #[.int .i64 k] 3)).setCell ⟨p.fb, k * 4 + 2, none⟩ (.int .i64 z)).drew) := fun z hz => by
    subst hz
    obtain ⟨q1, q2⟩ := H1.me.put1 (m' := m) (j := 2) hk { X.f k with pins := (X.f k).pins - 1 } (.int .i64 (((X.f k).pins - 1 : Nat) : Int)) (frV_setp X.f k _) (Nat.le_refl _) ⟨hbf.1, hbf.2.1, Nat.le_trans (Nat.sub_le _ _) hbf.2.2⟩
    obtain ⟨FD, FR, h, hF⟩ := H1
    have g : Fr p.own (w.alloc (.cells #[.int .i64 k] 3)) ((w.alloc (.cells #[.int .i64 k] 3)).setCell ⟨p.fb, k * 4 + 2, none⟩ (.int .i64 (((X.f k).pins - 1 : Nat) : Int))).drew := (q2.drew).mono (fun i q => .inr (.inl q))
    exact ⟨⟨FD, FR, ⟨q1.fr0 ((Fr.refl NoF _).drew), h.cd.fr g (fun i q k => (h.s1 i k).1 q), S.fr h.rr g (fun i q k => (h.s1 i k).2 q), h.s1, h.s2, h.t1⟩, hF⟩, g.mono (fun i q => (hF i).2 (.inl q))⟩
  have KX : Hid (∀ w3 F3, PI RR p { CT p.n X with f := upd X.f k { X.f k with pins := (X.f k).pins - 1 } } m w3 F3 → w3.cell? ⟨p.pb, 2, none⟩ = some (.slice (some ⟨p.fb, 0, none⟩) p.n p.n) ∧ w3.cell? ⟨p.fb, k * 4 + 2, none⟩ = some (.int .i64 ((X.f k).pins - 1 : Nat)) ∧ p.pb < w3.heap.size ∧ p.fb < w3.heap.size) :=
    fun w3 F3 h3 => ⟨h3.me.ce 2 (by omega), by have := (h3.me.cf hk).2.2.1; dsimp only at this; rw [upd_same] at this; exact this, h3.me.hd.lt, h3.me.fr.lt⟩
  have HS : Hid (∀ w3 F3, PI RR p { CT p.n X with f := upd X.f k { X.f k with pins := (X.f k).pins - 1 } } m w3 F3 → PI RR p { CT p.n X with f := upd X.f k { X.f k with pins := (X.f k).pins - 1 } } m w3.drew F3) := fun w3 F3 h3 => h3.fr0 S ((Fr.refl NoF _).drew)
  have e1 : plO p.n (upd X.f k { X.f k with pins := (X.f k).pins - 1 }) X.D = plO p.n X.f X.D := plO_same hk rfl
  have e2 : emB p.n (upd X.f k { X.f k with pins := (X.f k).pins - 1 }) = emB p.n X.f := by
    rw [emB_upd hk]
    exact updB_id (emB_at hk)
  have hI : Inv p.n (upd X.f k { X.f k with pins := (X.f k).pins - 1 }) X.D := H.2.1.keep hk rfl hid0 (H.2.1.vf k hk)
  have e3 : idB p.n (upd X.f k { X.f k with pins := (X.f k).pins - 1 }) = idB p.n X.f := by
    rw [idB_upd hk]
    refine updB_id ?_
    rw [idB_at hk]
    have q1 : ¬ (X.f k).pins = 0 := by omega
    have q2 : ¬ (X.f k).pins - 1 = 0 := by omega
    simp [q1, q2]
  have hE : ok (m + 1) X.A (pgO (upd X.f k { X.f k with pins := (X.f k).pins - 1 })) (evO (upd X.f k { X.f k with pins := (X.f k).pins - 1 })) := by
    refine S.same (S.more H.2.2 (Nat.le_succ m)) (fun i hi => ?_) (fun i hi _ => ?_)
    · rw [pgO_upd]
      by_cases e : i = k
      · rw [e, upd_same]; rfl
      · rw [upd_other _ _ e]
    · rw [evO_upd]
      by_cases e : i = k
      · have q1 : ¬ (X.f k).pins = 0 := by omega
        have q2 : ¬ (X.f k).pins - 1 = 0 := by omega
        rw [e, upd_same]; unfold evO; simp [q1, q2]
      · rw [upd_other _ _ e]
  have KF : Hid (∀ w3 F3, PI RR p { CT p.n X with f := upd X.f k { X.f k with pins := (X.f k).pins - 1 } } m w3 F3 → PW RR ok p { X with f := upd X.f k { X.f k with pins := (X.f k).pins - 1 } } (m + 4) w3 F3) := fun w3 F3 h' => by
    dsimp only [CT] at h'
    have hw : PW RR ok p { X with f := upd X.f k { X.f k with pins := (X.f k).pins - 1 } } (m + 1) w3 F3 := ⟨by
      unfold CT
      dsimp only
      rw [e1, e2, e3]
      exact h'.more (by omega), hI, hE⟩
    exact hw.more S (by omega)
  have hpm : (X.f k).pins < 900000 := by have q : (X.f k).pins ≤ m := hbf.2.2; omega
  have e2' : (w.alloc (.cells #[.int .i64 k] 3)).cell? ⟨p.fb, k * 4 + 2, none⟩ = some (.int .i64 (X.f k).pins) := (H1.me.cf hk).2.2.1
  have hcp : (((((X.f k).pins - 1 : Nat) : Int)) == 0) = false := by
    have : ¬ (X.f k).pins - 1 = 0 := by omega
    simp <;> omega
  have hp1 : 1 ≤ (X.f k).pins := by omega
  generalize hxp : (X.f k).pins = xp at *
  have B4 := Lib.hid b4
  have HP := Lib.hid hpm
  generalize hw2 : (w.alloc (.cells #[.int .i64 k] 3)) = w2 at *
  unfold PP.ptr at *
  clear H H1 S hlt b4 hu hbf hpl hid h1 hid0 e0 e1 e2 e3 hI hE hxp hp 
  go_enter Tryz.func20, Tryz.ntmps20
  go_wp2_with fail
  refine HA.out.mono ?_
  rintro e w1 ⟨rfl, rfl⟩
  have hcw : IntKind.i64.wrap ((xp : Int) - 1) = (xp : Int) - 1 := IntWalk.i64_in _ (by omega)
  go_wp2_with fail
  try rw [hw2]
  clear hw2
  go_region
  all_goals
    obtain ⟨hA, gA⟩ := KP.out ((xp : Int) - 1) (by omega)
    generalize (w2.setCell ⟨p.fb, k * 4 + 2, none⟩ (.int .i64 ((xp : Int) - 1))).drew = wA at hA gA ⊢
    obtain ⟨y1, y2, y3, y4⟩ := KX.out wA F hA
    have y6 : wA.cell? ⟨w.heap.size, 0, none⟩ = some (.int .i64 k) := by rw [gA.cell (p := ⟨w.heap.size, 0, none⟩) (by show w.heap.size < _; omega) hnF1]; exact b1
    have y7 := gA.size
    have H3 := Lib.hid hA
    have G3 := Lib.hid gA
    clear hA gA KP c2 e2' z2 lb lf e3
    go_wp2_with fail
    go_region
    all_goals
      go_wp2
      go_returns
      exact ⟨rfl, Led.trans (R := fun _ _ => True) (B4.out.mono (fun _ q => q.elim)) (fun i q => .inl q) (Led.trans (R := fun _ _ => True) G3.out (fun i q => .inl q) (Led.trans (R := fun _ _ => True) ((Fr.refl F wA).drew) (fun i q => .inl q) (Led.refl (KF.out _ _ (HS.out _ _ H3.out)))))⟩
theorem un_calls (H : PW RR ok p X m w F) (hm : m < 60000) {id : Nat} (hu : id < 4294967296) : Calls Tryz.prog 20 #[p.ptr, .int .u32 id] w fun e w' => e = .returned (.int .i64 (X.unpin P p.n id).1) ∧ Led (PW RR ok p (X.unpin P p.n id).2 (m + 10)) F w w' := by
  unfold PS.unpin
  rcases held_case H.2.1 id with ⟨h0, h1, h2, h3, h4, h5, h6, h7⟩ | ⟨h0, h1⟩
  · rw [if_pos h0]
    generalize (X.held p.n id).1 = k at *
    by_cases hp : (X.f k).pins = 1
    · rw [if_pos hp]
      refine (un_last S H hm hu h1 h2 h4 h5 hp).mono ?_
      rintro e w' ⟨he, hl⟩
      exact ⟨he, hl.mono (fun F' h => h.more S (by omega))⟩
    · rw [if_neg hp]
      refine (un_more S H hm hu h1 h2 h4 h5 (by omega)).mono ?_
      rintro e w' ⟨he, hl⟩
      exact ⟨he, hl.mono (fun F' h => h.more S (by omega))⟩
  · rw [if_neg h0]
    refine (un_no S H hu h0 h1).mono ?_
    rintro e w' ⟨he, g⟩
    exact ⟨he, F, (H.fr0 S g).more S (by omega), g.mono (fun _ q => q.elim), fun i q => .inl q⟩
end
end Go.Proofs.YtnideelidfpicaaGreatDoor
namespace Go.Proofs.YtnideelidfpicaaGreatDoor
open Go.RowKit Go.Maps
set_option linter.unusedVariables false
set_option linter.unusedSimpArgs false
set_option linter.unusedSectionVars false
set_option maxRecDepth 100000
section
variable {τ : Type} {P : Adv τ} {RR : World → τ → (Nat → Prop) → Prop} {ok : Nat → τ → (Nat → Nat) → (Nat → Bool) → Prop} {p : PP} {w w' : World} {m : Nat} {F : Nat → Prop} {X : PS τ} {T : PT τ}
theorem hs_calls (H : PW RR ok p X m w F) {id : Nat} (hu : id < 4294967296) : Calls Tryz.prog 17 #[p.ptr, .int .u32 id] w fun e w' => e = .returned (.bool (X.D.has id)) ∧ w = w' := by
  cases hh : X.D.has id with
  | false =>
    have HA := Lib.hid (find_none H.1.me hu (plO_none hh))
    unfold PP.ptr at *
    clear H hh hu
    go_enter Tryz.func17, Tryz.ntmps17
    go_wp2_with fail
    refine HA.out.mono ?_
    rintro e w1 ⟨rfl, rfl⟩
    go_wp2
    go_returns
    exact ⟨rfl, rfl⟩
  | true =>
    have hs : ∃ x, plO p.n X.f X.D id = some x := by unfold plO; rw [if_pos hh]; exact ⟨_, rfl⟩
    obtain ⟨x, hx⟩ := hs
    have HA := Lib.hid (find_some H.1.me hu hx)
    unfold PP.ptr at *
    clear H hh hu hx
    go_enter Tryz.func17, Tryz.ntmps17
    go_wp2_with fail
    refine HA.out.mono ?_
    rintro e w1 ⟨rfl, rfl⟩
    go_wp2
    go_returns
    exact ⟨rfl, rfl⟩
theorem fr_calls (H : PW RR ok p X m w F) {id : Nat} (hu : id < 4294967296) : Calls Tryz.prog 13 #[p.ptr, .int .u32 id] w fun e w' => e = .returned (.int .i64 (X.frame p.n id)) ∧ w = w' := by
  unfold PS.frame
  cases hx : plO p.n X.f X.D id with
  | none =>
    have HA := Lib.hid (find_none H.1.me hu hx)
    unfold PP.ptr at *
    clear H hu hx
    go_enter Tryz.func13, Tryz.ntmps13
    go_wp2_with fail
    refine HA.out.mono ?_
    rintro e w1 ⟨rfl, rfl⟩
    go_wp2
    go_returns
    exact ⟨rfl, rfl⟩
  | some x =>
    have HA := Lib.hid (find_some H.1.me hu hx)
    unfold PP.ptr at *
    clear H hu hx
    go_enter Tryz.func13, Tryz.ntmps13
    go_wp2_with fail
    refine HA.out.mono ?_
    rintro e w1 ⟨rfl, rfl⟩
    go_wp2
    go_returns
    exact ⟨rfl, rfl⟩
theorem sc_calls (H : PW RR ok p X m w F) : Calls Tryz.prog 10 #[p.ptr] w fun e w' => e = .returned (.int .i64 X.sc) ∧ w = w' := by
  have c := H.1.me.ce 10 (by omega)
  rw [show pH p (cntB (CT p.n X).E p.n) (cntB (CT p.n X).I p.n) (CT p.n X).sc 10 = .int .i64 X.sc from rfl] at c
  have lb := H.1.me.hd.lt
  unfold PP.ptr
  clear H
  go_enter Tryz.func10, Tryz.ntmps10
  go_wp2
  go_returns
  exact ⟨rfl, rfl⟩
theorem pi_calls (H : PW RR ok p X m w F) {id : Nat} (hu : id < 4294967296) : Calls Tryz.prog 15 #[p.ptr, .int .u32 id] w fun e w' => e = .returned (.int .i64 (X.pins p.n id)) ∧ w = w' := by
  unfold PS.pins
  rcases held_case H.2.1 id with ⟨h0, h1, h2, h3, h4, h5, h6, h7⟩ | ⟨h0, h1⟩
  · rw [if_pos h0]
    generalize (X.held p.n id).1 = k at *
    have HA := Lib.hid (held_yes H.1.me hu h1 h2 h3)
    obtain ⟨_, _, c, _⟩ := H.1.me.cf h1
    rw [show (CT p.n X).f = X.f from rfl] at c
    have c2 : w.cell? ⟨p.pb, 2, none⟩ = some (.slice (some ⟨p.fb, 0, none⟩) p.n p.n) := H.1.me.ce 2 (by omega)
    have hn := H.1.me.hn
    have lb := H.1.me.hd.lt
    have lf := H.1.me.fr.lt
    generalize (X.f k).pins = q at *
    unfold PP.ptr at *
    clear H hu h0 h2 h3 h4 h5 h6 h7
    go_enter Tryz.func15, Tryz.ntmps15
    go_wp2_with fail
    refine HA.out.mono ?_
    rintro e w1 ⟨rfl, rfl⟩
    go_wp2
    go_returns
    exact ⟨rfl, rfl⟩
  · rw [if_neg h0]
    have HA := Lib.hid (held_no H.1.me hu h1)
    have hne : ((((X.held p.n id).2 : Nat) : Int) == 0) = false := by simp <;> exact h0
    generalize (X.held p.n id).2 = e0 at *
    unfold PP.ptr at *
    clear H hu h0 h1
    go_enter Tryz.func15, Tryz.ntmps15
    go_wp2_with fail
    refine HA.out.mono ?_
    rintro e w1 ⟨rfl, rfl⟩
    go_wp2
    go_returns
    exact ⟨rfl, rfl⟩
theorem rd_calls (H : PW RR ok p X m w F) {id : Nat} (hu : id < 4294967296) : Calls Tryz.prog 29 #[p.ptr, .int .u32 id] w fun e w' => e = .returned (.tuple #[.int .u64 (X.read p.n id).1, .int .i64 (X.read p.n id).2]) ∧ w = w' := by
  unfold PS.read
  rcases held_case H.2.1 id with ⟨h0, h1, h2, h3, h4, h5, h6, h7⟩ | ⟨h0, h1⟩
  · rw [if_pos h0]
    generalize (X.held p.n id).1 = k at *
    have HA := Lib.hid (held_yes H.1.me hu h1 h2 h3)
    obtain ⟨_, c, _, _⟩ := H.1.me.cf h1
    rw [show (CT p.n X).f = X.f from rfl] at c
    have c2 : w.cell? ⟨p.pb, 2, none⟩ = some (.slice (some ⟨p.fb, 0, none⟩) p.n p.n) := H.1.me.ce 2 (by omega)
    have hn := H.1.me.hn
    have lb := H.1.me.hd.lt
    have lf := H.1.me.fr.lt
    generalize (X.f k).val = q at *
    unfold PP.ptr at *
    clear H hu h0 h2 h3 h4 h5 h6 h7
    go_enter Tryz.func29, Tryz.ntmps29
    go_wp2_with fail
    refine HA.out.mono ?_
    rintro e w1 ⟨rfl, rfl⟩
    go_wp2
    go_returns
    exact ⟨rfl, rfl⟩
  · rw [if_neg h0]
    have HA := Lib.hid (held_no H.1.me hu h1)
    have hne : ((((X.held p.n id).2 : Nat) : Int) == 0) = false := by simp <;> exact h0
    generalize (X.held p.n id).2 = e0 at *
    unfold PP.ptr at *
    clear H hu h0 h1
    go_enter Tryz.func29, Tryz.ntmps29
    go_wp2_with fail
    refine HA.out.mono ?_
    rintro e w1 ⟨rfl, rfl⟩
    go_wp2
    go_returns
    exact ⟨rfl, rfl⟩
/-! One that isn't there. -/
theorem nil_Fetch {id : Nat} : Calls Tryz.prog 21 #[.pointer none, .int .u32 id] w fun e w' => e = .returned (.int .i64 1) ∧ w = w' := by
  have HC := Lib.hid (find_nil (w := w) (id := id))
  go_enter Tryz.func21, Tryz.ntmps21
  go_wp2_with fail
  refine HC.out.mono ?_
  rintro e w1 ⟨rfl, rfl⟩
  go_wp2
  go_returns
  exact ⟨rfl, rfl⟩
theorem nil_Unpin {id : Nat} : Calls Tryz.prog 20 #[.pointer none, .int .u32 id] w fun e w' => e = .returned (.int .i64 1) ∧ Fr NoF w w' := by
  have HC := Lib.hid (held_nil (w := w) (id := id))
  go_enter Tryz.func20, Tryz.ntmps20
  go_wp2_with fail
  refine HC.out.mono ?_
  rintro e w1 ⟨rfl, rfl⟩
  go_wp2
  go_returns
  exact ⟨rfl, (Fr.refl NoF w).alloc _⟩
theorem nil_Read {id : Nat} : Calls Tryz.prog 29 #[.pointer none, .int .u32 id] w fun e w' => e = .returned (.tuple #[.int .u64 0, .int .i64 1]) ∧ w = w' := by
  have HC := Lib.hid (held_nil (w := w) (id := id))
  go_enter Tryz.func29, Tryz.ntmps29
  go_wp2_with fail
  refine HC.out.mono ?_
  rintro e w1 ⟨rfl, rfl⟩
  go_wp2
  go_returns
  exact ⟨rfl, rfl⟩
theorem nil_Write {id v : Nat} : Calls Tryz.prog 31 #[.pointer none, .int .u32 id, .int .u64 v] w fun e w' => e = .returned (.int .i64 1) ∧ w = w' := by
  have HC := Lib.hid (held_nil (w := w) (id := id))
  go_enter Tryz.func31, Tryz.ntmps31
  go_wp2_with fail
  refine HC.out.mono ?_
  rintro e w1 ⟨rfl, rfl⟩
  go_wp2
  go_returns
  exact ⟨rfl, rfl⟩
theorem nil_Flush {id : Nat} : Calls Tryz.prog 33 #[.pointer none, .int .u32 id] w fun e w' => e = .returned (.int .i64 1) ∧ w = w' := by
  have HC := Lib.hid (find_nil (w := w) (id := id))
  go_enter Tryz.func33, Tryz.ntmps33
  go_wp2_with fail
  refine HC.out.mono ?_
  rintro e w1 ⟨rfl, rfl⟩
  go_wp2
  go_returns
  exact ⟨rfl, rfl⟩
theorem nil_Delete {id : Nat} : Calls Tryz.prog 37 #[.pointer none, .int .u32 id] w fun e w' => e = .returned (.int .i64 1) ∧ w = w' := by
  have HC := Lib.hid (find_nil (w := w) (id := id))
  go_enter Tryz.func37, Tryz.ntmps37
  go_wp2_with fail
  refine HC.out.mono ?_
  rintro e w1 ⟨rfl, rfl⟩
  go_wp2
  go_returns
  exact ⟨rfl, rfl⟩
theorem nil_Has {id : Nat} : Calls Tryz.prog 17 #[.pointer none, .int .u32 id] w fun e w' => e = .returned (.bool false) ∧ w = w' := by
  have HC := Lib.hid (find_nil (w := w) (id := id))
  go_enter Tryz.func17, Tryz.ntmps17
  go_wp2_with fail
  refine HC.out.mono ?_
  rintro e w1 ⟨rfl, rfl⟩
  go_wp2
  go_returns
  exact ⟨rfl, rfl⟩
theorem nil_Pins {id : Nat} : Calls Tryz.prog 15 #[.pointer none, .int .u32 id] w fun e w' => e = .returned (.int .i64 0) ∧ w = w' := by
  have HC := Lib.hid (held_nil (w := w) (id := id))
  go_enter Tryz.func15, Tryz.ntmps15
  go_wp2_with fail
  refine HC.out.mono ?_
  rintro e w1 ⟨rfl, rfl⟩
  go_wp2
  go_returns
  exact ⟨rfl, rfl⟩
theorem nil_Frame {id : Nat} : Calls Tryz.prog 13 #[.pointer none, .int .u32 id] w fun e w' => e = .returned (.int .i64 (-1)) ∧ w = w' := by
  have HC := Lib.hid (find_nil (w := w) (id := id))
  go_enter Tryz.func13, Tryz.ntmps13
  go_wp2_with fail
  refine HC.out.mono ?_
  rintro e w1 ⟨rfl, rfl⟩
  go_wp2
  go_returns
  exact ⟨rfl, rfl⟩
theorem nil_Scans : Calls Tryz.prog 10 #[.pointer none] w fun e w' => e = .returned (.int .i64 0) ∧ w = w' := by
  go_enter Tryz.func10, Tryz.ntmps10
  go_wp2
  go_returns
  exact ⟨rfl, rfl⟩
theorem nil_FlushAll : Calls Tryz.prog 35 #[.pointer none] w fun e w' => e = .returned (.int .i64 1) ∧ w = w' := by
  go_enter Tryz.func35, Tryz.ntmps35
  go_wp2
  go_returns
  exact ⟨rfl, rfl⟩
theorem nil_NewPage : Calls Tryz.prog 19 #[.pointer none] w fun e w' => e = .returned (.tuple #[.int .u32 0, .int .i64 1]) ∧ w = w' := by
  go_enter Tryz.func19, Tryz.ntmps19
  go_wp2
  go_returns
  exact ⟨rfl, rfl⟩
end
end Go.Proofs.YtnideelidfpicaaGreatDoor
namespace Go.Proofs.YtnideelidfpicaaGreatDoor
open Go.RowKit
set_option linter.unusedVariables false
set_option linter.unusedSimpArgs false
set_option linter.unusedSectionVars false
set_option maxRecDepth 100000

/-- Numbers as a slice's cells. -/
def SlZ (w : World) (v : Value) (l : List Int) : Prop := SlC w 1 v l.length (l.map fun x => Value.int .i64 x)
theorem SlZ.at {w : World} {v : Value} {x : Int} {l : List Int} (h : SlZ w v (x :: l)) : ∃ b off c, v = .slice (some ⟨b, off, none⟩) (l.length + 1) c ∧ l.length + 1 ≤ c ∧ c ≤ maxLen ∧ b < w.heap.size ∧ w.cell? ⟨b, off, none⟩ = some (.int .i64 x) := by
  obtain ⟨b, off, c, e, h1, h2, h3, h4⟩ := SlC.at h (k := 0) (by show 0 < l.length + 1; omega) (by omega)
  exact ⟨b, off, c, e, h1, h2, h3, h4 0 _ rfl⟩
theorem SlZ.tail {w : World} {x : Int} {l : List Int} {b off c : Nat} (h : SlZ w (.slice (some ⟨b, off, none⟩) (l.length + 1) c) (x :: l)) : (c = 1 → SlZ w (.slice (some ⟨b, off, none⟩) 0 0) l ∧ l = []) ∧ (¬ c = 1 → SlZ w (.slice (some ⟨b, off + 1, none⟩) l.length (c - 1)) l) := by
  have hlt := SlC.lt h b rfl
  obtain ⟨_, _, e, hc, hm⟩ := SlC.shape h
  simp only [Value.slice.injEq] at e
  obtain ⟨_, _, rfl⟩ := e
  simp only [List.length_cons] at hc
  refine ⟨fun e => ?_, fun e => ?_⟩
  · have e0 : l = [] := List.length_eq_zero_iff.1 (by omega)
    subst e0
    exact ⟨⟨_, _, rfl, rfl, by simp, by show 0 ≤ 0; omega, by unfold maxLen; omega, .inr ⟨b, off, rfl, hlt, fun j u hj => by simp at hj⟩⟩, rfl⟩
  · obtain ⟨b', o', e1, h1⟩ := SlC.cut (lo := 1) (hi := l.length + 1) h (by omega) (Nat.le_refl _) rfl (by omega)
    simp only [Option.some.injEq, Addr.mk.injEq] at e1
    obtain ⟨rfl, rfl, _⟩ := e1
    have e2 : (List.take ((l.length + 1 - 1) * 1) (List.drop (1 * 1) (List.map (fun x => Value.int .i64 x) (x :: l)))) = l.map fun x => Value.int .i64 x := by
      simp
      exact List.take_of_length_le (by rw [List.length_map]; exact Nat.le_refl _)
    rw [e2, show l.length + 1 - 1 = l.length from by omega, show off + 1 * 1 = off + 1 from by omega] at h1
    exact h1
/-- Advice, as functions. -/
def advP : Adv (List Int) where
  miss := fun l _ => l
  access := fun l _ _ => l
  set := fun l _ _ => l
  victim := fun l _ => match l with
    | [] => none
    | x :: _ => if x < 0 then none else some x.toNat
  aft := fun l _ => l.tail
  remove := fun l _ => l
/-- Advice in memory, at block lb. -/
def AR (lb : Nat) (w : World) (l : List Int) (F : Nat → Prop) : Prop := ∃ v, Blk w lb 1 (fun _ => v) ∧ SlZ w v l ∧ ¬ v.ownBlock = some lb ∧ ∀ i, F i ↔ i = lb ∨ v.ownBlock = some i
def advV (lb : Nat) : Value := .iface 73 (.pointer (some ⟨lb, 0, none⟩))
section
variable {w w' : World} {lb : Nat} {l : List Int} {F : Nat → Prop}
theorem AR.fr (h : AR lb w l F) {G : Nat → Prop} (f : Fr G w w') (hG : ∀ i, F i → ¬ G i) : AR lb w' l F := by
  obtain ⟨v, h1, h2, h3, h4⟩ := h
  exact ⟨v, h1.fr f (hG _ ((h4 _).2 (.inl rfl))), SlC.fr h2 f (fun b q => hG b ((h4 b).2 (.inr q))), h3, h4⟩
theorem AR.lt (h : AR lb w l F) : ∀ i, F i → i < w.heap.size := by
  obtain ⟨v, h1, h2, h3, h4⟩ := h
  intro i q
  rcases (h4 i).1 q with rfl | q
  · exact h1.lt
  · exact SlC.lt h2 i q
theorem AR.tld (h : AR lb w l F) : Tld (AR lb) l F w w := ⟨F, h, Fr.refl _ _, fun i q => .inl q⟩
theorem av_miss {id : Nat} : Calls Tryz.prog 144 #[.pointer (some ⟨lb, 0, none⟩), .int .u32 id] w fun e w' => e = .returned (.tuple #[]) ∧ w = w' := by
  go_enter Tryz.func144, Tryz.ntmps144
  go_wp2
  go_returns
  exact ⟨rfl, rfl⟩
theorem av_access {id k : Nat} : Calls Tryz.prog 142 #[.pointer (some ⟨lb, 0, none⟩), .int .i64 k, .int .u32 id] w fun e w' => e = .returned (.tuple #[]) ∧ w = w' := by
  go_enter Tryz.func142, Tryz.ntmps142
  go_wp2
  go_returns
  exact ⟨rfl, rfl⟩
theorem av_set {k : Nat} {b : Bool} : Calls Tryz.prog 146 #[.pointer (some ⟨lb, 0, none⟩), .int .i64 k, .bool b] w fun e w' => e = .returned (.tuple #[]) ∧ w = w' := by
  go_enter Tryz.func146, Tryz.ntmps146
  go_wp2
  go_returns
  exact ⟨rfl, rfl⟩
theorem av_remove {k : Nat} : Calls Tryz.prog 145 #[.pointer (some ⟨lb, 0, none⟩), .int .i64 k] w fun e w' => e = .returned (.tuple #[]) ∧ w = w' := by
  go_enter Tryz.func145, Tryz.ntmps145
  go_wp2
  go_returns
  exact ⟨rfl, rfl⟩
set_option maxHeartbeats 1000000 in
theorem av_victim (h : AR lb w l F) {id : Nat} : Calls Tryz.prog 148 #[.pointer (some ⟨lb, 0, none⟩), .int .u32 id] w fun e w' =>
    (match advP.victim l id with
      | none => ∃ x : Int, e = .returned (.tuple #[.int .i64 x, .bool false])
      | some a => e = .returned (.tuple #[.int .i64 a, .bool true])) ∧ Tld (AR lb) (advP.aft l id) F w w' := by
  have h0 := h
  obtain ⟨v, h1, h2, h3, h4⟩ := h
  have c0 : w.cell? ⟨lb, 0, none⟩ = some v := h1.cell (by omega)
  have z0 := h1.frozen 0
  have lb0 := h1.lt
  cases l with
  | nil =>
    obtain ⟨a, c, e, g1, g2⟩ := SlC.shape h2
    subst e
    have H0 := Lib.hid h0
    show Calls _ _ _ _ fun e w' => (∃ x : Int, e = .returned (.tuple #[.int .i64 x, .bool false])) ∧ Tld (AR lb) [] F w w'
    rw [show ([] : List Int).length = 0 from rfl] at c0
    clear h0 h1 h2 h3 h4
    go_enter Tryz.func148, Tryz.ntmps148
    go_wp2
    go_returns
    exact ⟨⟨0, rfl⟩, H0.out.tld⟩
  | cons x l =>
    obtain ⟨b, off, c, e, g1, g2, g3, g4⟩ := h2.at
    subst e
    obtain ⟨t1, t2⟩ := h2.tail
    have hcb : ¬ lb = b := fun e => h3 (by rw [e]; rfl)
    have hcb2 : ¬ b = lb := fun e => h3 (by rw [← e]; rfl)
    have KW : Hid (∀ nv : Value, (nv = .slice (some ⟨b, off, none⟩) 0 0 ∧ c = 1 ∨ nv = .slice (some ⟨b, off + 1, none⟩) l.length (c - 1) ∧ ¬ c = 1) → Tld (AR lb) l F w (w.setCell ⟨lb, 0, none⟩ nv)) := fun nv hv => by
      have f : Fr (fun i => i = lb) w (w.setCell ⟨lb, 0, none⟩ nv) := (Fr.refl (fun i => i = lb) w).setCell (p := ⟨lb, 0, none⟩) (.inl rfl) _
      have hs : SlZ w nv l ∧ nv.ownBlock = some b := by
        rcases hv with ⟨rfl, q⟩ | ⟨rfl, q⟩
        · exact ⟨(t1 q).1, rfl⟩
        · exact ⟨t2 q, rfl⟩
      refine ⟨F, ⟨nv, (h1.set 0 nv).congr (fun i hi => ?_), SlC.fr hs.1 f (fun k q => ?_), fun q => ?_, fun i => ?_⟩, f.mono (fun i q => (h4 i).2 (.inl q)), fun i q => .inl q⟩
      · obtain rfl : i = 0 := by omega
        rw [upd_same]
      · rw [hs.2] at q; cases q; exact hcb2
      · rw [hs.2] at q; cases q; exact hcb rfl
      · rw [h4 i, hs.2]; exact Iff.rfl
    show Calls _ _ _ _ fun e w' => (match (if x < 0 then none else some x.toNat : Option Nat) with
      | none => ∃ x : Int, e = .returned (.tuple #[.int .i64 x, .bool false])
      | some a => e = .returned (.tuple #[.int .i64 a, .bool true])) ∧ Tld (AR lb) l F w w'
    have hll : l.length + 1 ≤ 9223372036854775807 := by unfold maxLen at g2; omega
    have HLL := Lib.hid hll
    generalize l.length = n at *
    clear h0 h1 h2 h3 h4 t1 t2 hll
    unfold maxLen at g2
    by_cases hx : x < 0
    · rw [if_pos hx]
      have hd : decide (x < 0) = true := decide_eq_true hx
      by_cases hc : c = 1
      · subst hc
        obtain rfl : n = 0 := by omega
        have HG := Lib.hid g2
        clear g2
        go_enter Tryz.func148, Tryz.ntmps148
        go_wp2
        go_returns
        exact ⟨⟨0, rfl⟩, KW.out _ (.inl ⟨by first | rfl | trivial, by first | rfl | trivial⟩)⟩
      · have hc2 : 1 < c := by omega
        have HG := Lib.hid g2
        clear g2
        go_enter Tryz.func148, Tryz.ntmps148
        go_wp2
        go_returns
        exact ⟨⟨0, rfl⟩, KW.out _ (.inr ⟨by first | rfl | (simp; done) | (congr 1 <;> omega), hc⟩)⟩
    · rw [if_neg hx]
      have hd : decide (x < 0) = false := decide_eq_false hx
      obtain ⟨k, rfl⟩ := Int.eq_ofNat_of_zero_le (show 0 ≤ x by omega)
      rw [show (k : Int).toNat = k from by omega]
      by_cases hc : c = 1
      · subst hc
        obtain rfl : n = 0 := by omega
        have HG := Lib.hid g2
        clear g2
        go_enter Tryz.func148, Tryz.ntmps148
        go_wp2
        go_returns
        exact ⟨rfl, KW.out _ (.inl ⟨by first | rfl | trivial, by first | rfl | trivial⟩)⟩
      · have hc2 : 1 < c := by omega
        have HG := Lib.hid g2
        clear g2
        go_enter Tryz.func148, Tryz.ntmps148
        go_wp2
        go_returns
        exact ⟨rfl, KW.out _ (.inr ⟨by first | rfl | (simp; done) | (congr 1 <;> omega), hc⟩)⟩
theorem ad_p1 {id b2 : Nat} (h : AR lb w l F) (q2 : w.cell? ⟨b2, 0, none⟩ = some (.int .u32 id)) (q4 : b2 < w.heap.size) : Calls Tryz.prog 75 #[advV lb, .pointer (some ⟨b2, 0, none⟩)] w fun e w' => e = .returned (.tuple #[]) ∧ Tld (AR lb) l F w w' := by
  have HM : Hid (Calls _ _ _ _ _) := av_miss (lb := lb) (w := w) (id := id)
  have HT := Lib.hid h.tld
  unfold advV
  clear h
  go_enter Tryz.func75, Tryz.ntmps75
  go_wp2_with fail
  refine HM.out.mono ?_
  rintro e w1 ⟨rfl, rfl⟩
  go_wp2
  go_returns
  exact ⟨rfl, HT.out⟩
theorem ad_p2 {k id b1 b2 : Nat} (h : AR lb w l F) (q1 : w.cell? ⟨b1, 0, none⟩ = some (.int .i64 k)) (q2 : w.cell? ⟨b2, 0, none⟩ = some (.int .u32 id)) (q3 : b1 < w.heap.size) (q4 : b2 < w.heap.size) : Calls Tryz.prog 78 #[advV lb, .pointer (some ⟨b1, 0, none⟩), .pointer (some ⟨b2, 0, none⟩)] w fun e w' => e = .returned (.tuple #[]) ∧ Tld (AR lb) l F w w' := by
  have HM : Hid (Calls _ _ _ _ _) := av_access (lb := lb) (w := w) (k := k) (id := id)
  have HT := Lib.hid h.tld
  unfold advV
  clear h
  go_enter Tryz.func78, Tryz.ntmps78
  go_wp2_with fail
  refine HM.out.mono ?_
  rintro e w1 ⟨rfl, rfl⟩
  go_wp2
  go_returns
  exact ⟨rfl, HT.out⟩
theorem ad_e1 {k id b1 b2 : Nat} (h : AR lb w l F) (q1 : w.cell? ⟨b1, 0, none⟩ = some (.int .i64 k)) (q2 : w.cell? ⟨b2, 0, none⟩ = some (.int .u32 id)) (q3 : b1 < w.heap.size) (q4 : b2 < w.heap.size) : Calls Tryz.prog 84 #[advV lb, .pointer (some ⟨b1, 0, none⟩), .pointer (some ⟨b2, 0, none⟩)] w fun e w' => e = .returned (.tuple #[]) ∧ Tld (AR lb) l F w w' := by
  have HM : Hid (Calls _ _ _ _ _) := av_access (lb := lb) (w := w) (k := k) (id := id)
  have HT := Lib.hid h.tld
  unfold advV
  clear h
  go_enter Tryz.func84, Tryz.ntmps84
  go_wp2_with fail
  refine HM.out.mono ?_
  rintro e w1 ⟨rfl, rfl⟩
  go_wp2
  go_returns
  exact ⟨rfl, HT.out⟩
theorem ad_t1 {k id b1 b2 : Nat} (h : AR lb w l F) (q1 : w.cell? ⟨b1, 0, none⟩ = some (.int .i64 k)) (q2 : w.cell? ⟨b2, 0, none⟩ = some (.int .u32 id)) (q3 : b1 < w.heap.size) (q4 : b2 < w.heap.size) : Calls Tryz.prog 87 #[advV lb, .pointer (some ⟨b1, 0, none⟩), .pointer (some ⟨b2, 0, none⟩)] w fun e w' => e = .returned (.tuple #[]) ∧ Tld (AR lb) l F w w' := by
  have HM : Hid (Calls _ _ _ _ _) := av_access (lb := lb) (w := w) (k := k) (id := id)
  have HT := Lib.hid h.tld
  unfold advV
  clear h
  go_enter Tryz.func87, Tryz.ntmps87
  go_wp2_with fail
  refine HM.out.mono ?_
  rintro e w1 ⟨rfl, rfl⟩
  go_wp2
  go_returns
  exact ⟨rfl, HT.out⟩
theorem ad_p3 {k b1 : Nat} (h : AR lb w l F) (q1 : w.cell? ⟨b1, 0, none⟩ = some (.int .i64 k)) (q3 : b1 < w.heap.size) : Calls Tryz.prog 79 #[advV lb, .pointer (some ⟨b1, 0, none⟩)] w fun e w' => e = .returned (.tuple #[]) ∧ Tld (AR lb) l F w w' := by
  have HM : Hid (Calls _ _ _ _ _) := av_set (lb := lb) (w := w) (k := k) (b := true)
  have HT := Lib.hid h.tld
  unfold advV
  clear h
  go_enter Tryz.func79, Tryz.ntmps79
  go_wp2_with fail
  refine HM.out.mono ?_
  rintro e w1 ⟨rfl, rfl⟩
  go_wp2
  go_returns
  exact ⟨rfl, HT.out⟩
theorem ad_u1 {k b1 : Nat} (h : AR lb w l F) (q1 : w.cell? ⟨b1, 0, none⟩ = some (.int .i64 k)) (q3 : b1 < w.heap.size) : Calls Tryz.prog 57 #[advV lb, .pointer (some ⟨b1, 0, none⟩)] w fun e w' => e = .returned (.tuple #[]) ∧ Tld (AR lb) l F w w' := by
  have HM : Hid (Calls _ _ _ _ _) := av_set (lb := lb) (w := w) (k := k) (b := true)
  have HT := Lib.hid h.tld
  unfold advV
  clear h
  go_enter Tryz.func57, Tryz.ntmps57
  go_wp2_with fail
  refine HM.out.mono ?_
  rintro e w1 ⟨rfl, rfl⟩
  go_wp2
  go_returns
  exact ⟨rfl, HT.out⟩
theorem ad_t2 {k b1 : Nat} (h : AR lb w l F) (q1 : w.cell? ⟨b1, 0, none⟩ = some (.int .i64 k)) (q3 : b1 < w.heap.size) : Calls Tryz.prog 88 #[advV lb, .pointer (some ⟨b1, 0, none⟩)] w fun e w' => e = .returned (.tuple #[]) ∧ Tld (AR lb) l F w w' := by
  have HM : Hid (Calls _ _ _ _ _) := av_set (lb := lb) (w := w) (k := k) (b := false)
  have HT := Lib.hid h.tld
  unfold advV
  clear h
  go_enter Tryz.func88, Tryz.ntmps88
  go_wp2_with fail
  refine HM.out.mono ?_
  rintro e w1 ⟨rfl, rfl⟩
  go_wp2
  go_returns
  exact ⟨rfl, HT.out⟩
theorem ad_v1 {k b1 : Nat} (h : AR lb w l F) (q1 : w.cell? ⟨b1, 0, none⟩ = some (.int .i64 k)) (q3 : b1 < w.heap.size) : Calls Tryz.prog 100 #[advV lb, .pointer (some ⟨b1, 0, none⟩)] w fun e w' => e = .returned (.tuple #[]) ∧ Tld (AR lb) l F w w' := by
  have HM : Hid (Calls _ _ _ _ _) := av_remove (lb := lb) (w := w) (k := k)
  have HT := Lib.hid h.tld
  unfold advV
  clear h
  go_enter Tryz.func100, Tryz.ntmps100
  go_wp2_with fail
  refine HM.out.mono ?_
  rintro e w1 ⟨rfl, rfl⟩
  go_wp2
  go_returns
  exact ⟨rfl, HT.out⟩
theorem ad_r1 {k b1 : Nat} (h : AR lb w l F) (q1 : w.cell? ⟨b1, 0, none⟩ = some (.int .i64 k)) (q3 : b1 < w.heap.size) : Calls Tryz.prog 89 #[advV lb, .pointer (some ⟨b1, 0, none⟩)] w fun e w' => e = .returned (.tuple #[]) ∧ Tld (AR lb) l F w w' := by
  have HM : Hid (Calls _ _ _ _ _) := av_remove (lb := lb) (w := w) (k := k)
  have HT := Lib.hid h.tld
  unfold advV
  clear h
  go_enter Tryz.func89, Tryz.ntmps89
  go_wp2_with fail
  refine HM.out.mono ?_
  rintro e w1 ⟨rfl, rfl⟩
  go_wp2
  go_returns
  exact ⟨rfl, HT.out⟩
set_option maxHeartbeats 1000000 in
theorem ad_ask {pb id : Nat} (h : AR lb w l F) (q1 : w.cell? ⟨pb, 1, none⟩ = some (advV lb)) (q2 : pb < w.heap.size) : Calls Tryz.prog 99 #[.pointer (some ⟨pb, 0, none⟩), .int .u32 id] w fun e w' =>
    (match advP.victim l id with
      | none => ∃ x : Int, e = .returned (.tuple #[.int .i64 x, .bool false])
      | some a => e = .returned (.tuple #[.int .i64 a, .bool true])) ∧ Tld (AR lb) (advP.aft l id) F w w' := by
  have HV := Lib.hid (av_victim h (id := id))
  unfold advV at q1
  clear h
  generalize advP.aft l id = l2 at *
  generalize advP.victim l id = v at *
  cases v with
  | none =>
    go_enter_defers Tryz.func99, Tryz.ntmps99
    go_wp2_with fail
    refine HV.out.mono ?_
    rintro e w1 ⟨⟨x, rfl⟩, h1⟩
    have H1 := Lib.hid h1
    clear h1
    go_wp2
    refine leaves_cons (f := 105) (args := #[]) (by simp) (by simp [go_sem]) ?_
    refine (ask_idle _).mono ?_
    rintro e u' w'' ⟨rfl, rfl, rfl⟩
    simp [Leaves, settle, results, Tryz.results99, go_sem]
    exact H1.out
  | some a =>
    go_enter_defers Tryz.func99, Tryz.ntmps99
    go_wp2_with fail
    refine HV.out.mono ?_
    rintro e w1 ⟨rfl, h1⟩
    have H1 := Lib.hid h1
    clear h1
    go_wp2
    refine leaves_cons (f := 105) (args := #[]) (by simp) (by simp [go_sem]) ?_
    refine (ask_idle _).mono ?_
    rintro e u' w'' ⟨rfl, rfl, rfl⟩
    simp [Leaves, settle, results, Tryz.results99, go_sem]
    exact H1.out
/-- All that a pool asks of a Replacer. -/
theorem adv_sys (pb lb n : Nat) : RepSys advP (AR lb) pb (advV lb) n (fun _ _ _ _ => True) where
  fr := fun h f hG => h.fr f hG
  lt := fun h => h.lt
  more := fun _ _ => trivial
  same := fun _ _ _ => trivial
  miss := fun h _ _ _ _ _ q2 q4 _ => ad_p1 h q2 q4
  acc := fun h _ _ _ _ _ _ q1 q2 q3 q4 _ _ hg => by
    rcases hg with rfl | rfl | rfl
    · exact ad_p2 h q1 q2 q3 q4
    · exact ad_e1 h q1 q2 q3 q4
    · exact ad_t1 h q1 q2 q3 q4
  setT := fun h _ _ _ _ q1 q3 _ hg => by
    rcases hg with rfl | rfl
    · exact ad_p3 h q1 q3
    · exact ad_u1 h q1 q3
  setF := fun h _ _ _ _ q1 q3 _ => ad_t2 h q1 q3
  rem := fun h _ _ _ _ q1 q3 _ hg => by
    rcases hg with rfl | rfl
    · exact ad_v1 h q1 q3
    · exact ad_r1 h q1 q3
  ask := fun h _ _ _ _ _ _ q1 q2 _ => ad_ask h q1 q2
  okMiss := fun _ _ _ _ => trivial
  okNew := fun _ _ _ _ _ _ => trivial
  okOld := fun _ _ _ _ _ => trivial
  okSet := fun _ _ _ _ _ => trivial
  okRem := fun _ _ _ _ => trivial
  okYes := fun _ _ _ _ _ _ => trivial
  okNo := fun _ _ _ _ _ => trivial
end
end Go.Proofs.YtnideelidfpicaaGreatDoor

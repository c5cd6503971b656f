/-
  pool: Fetch.
  pool: Fetch of a page that comes; Unpin.
  pool: Unpin. (genPoY.py)
  pool: Has, Frame, Scans, Pins, Read; what one that isn't there answers.
  pool: Write, Flush, Delete.
  pool: Delete.
  pool: dirty, as far as the library's sort.
  pool: FlushAll, but for the library's sort.
-/
import Derived.Test.YtmpjnphnljakiaaGreatDoorK20
namespace Go.Proofs.YtmpjnphnljakiaaGreatDoor
open Go.RowKit Go.Maps
set_option linter.unusedVariables false
set_option linter.unusedSimpArgs false
set_option linter.unusedSectionVars false
set_option maxRecDepth 100000
section
variable {τ : Type} {P : Adv τ} {RR : World → τ → (Nat → Prop) → Prop} {ok : Nat → τ → (Nat → Nat) → (Nat → Bool) → Prop} {p : PP} (S : RepSys P RR p.pb p.rv p.n ok) {w w' : World} {m : Nat} {F : Nat → Prop} {X : PS τ} {T : PT τ}
theorem plO_none {n : Nat} {f : Nat → FrS} {D : RS} {id : Nat} (h : D.has id = false) : plO n f D id = none := by unfold plO; rw [h]; rfl
theorem plO_some {n : Nat} {f : Nat → FrS} {D : RS} {id k : Nat} (h : D.has id = true) (hk : frm n f id = some k) : plO n f D id = some (k : Int) := by unfold plO; rw [h, hk]; rfl
theorem plO_out {n : Nat} {f : Nat → FrS} {D : RS} {id : Nat} (h : D.has id = true) (hk : frm n f id = none) : plO n f D id = some (-1) := by unfold plO; rw [h, hk]; rfl
theorem Inv.fpos {n : Nat} {f : Nat → FrS} {D : RS} (H : Inv n f D) {id k : Nat} (h : D.has id = true) (hk : frm n f id = some k) : k < n ∧ (f k).id = id ∧ 1 ≤ id := ⟨(frm_some hk).1, (frm_some hk).2, H.pos h⟩
include S
theorem touch_pw (H : PW RR ok p X m w F) (hm : m < 60000) {k : Nat} (hk : k < p.n) (h0 : ¬ (X.f k).id = 0) : Calls Tryz.prog 51 #[p.ptr, .int .i64 k] w fun e w' => e = .returned (.tuple #[]) ∧ Led (PW RR ok p (X.touch P k) (m + 3)) F w w' := by
  have h1 : 1 ≤ ((CT p.n X).f k).id := by show 1 ≤ (X.f k).id; omega
  have e1 : plO p.n (upd X.f k { X.f k with pins := (X.f k).pins + 1 }) X.D = plO p.n X.f X.D := plO_same hk rfl
  have e2 : emB p.n (upd X.f k { X.f k with pins := (X.f k).pins + 1 }) = emB p.n X.f := by
    rw [emB_upd hk]
    exact updB_id (emB_at hk)
  have e3 : idB p.n (upd X.f k { X.f k with pins := (X.f k).pins + 1 }) = updB (idB p.n X.f) k false := by
    rw [idB_upd hk]
    congr 1
    simp
  have hI : Inv p.n (upd X.f k { X.f k with pins := (X.f k).pins + 1 }) X.D := H.2.1.keep hk rfl h0 (H.2.1.vf k hk)
  have hE : ∀ {A : τ} {ev : Nat → Bool}, ok (m + 3) A (pgO X.f) ev → (∀ i, i < p.n → ev i = upd (evO X.f) k false i) → ok (m + 3) A (pgO (upd X.f k { X.f k with pins := (X.f k).pins + 1 })) (evO (upd X.f k { X.f k with pins := (X.f k).pins + 1 })) := fun {A ev} h he => by
    refine S.same h (fun i hi => ?_) (fun i hi _ => ?_)
    · rw [pgO_upd]
      by_cases e : i = k
      · rw [e, upd_same]; rfl
      · rw [upd_other _ _ e]
    · rw [he i hi, evO_upd]
      by_cases e : i = k
      · rw [e, upd_same, upd_same]; simp
      · rw [upd_other _ _ e, upd_other _ _ e]
  by_cases hp : (X.f k).pins = 0
  · refine (touch_zero S (H.1.more (Nat.le_succ m)) (by omega) hk h1 (S.more H.2.2 (Nat.le_succ m)) rfl hp).mono ?_
    rintro e w' ⟨he, hl⟩
    refine ⟨he, hl.mono (fun F' h' => ?_)⟩
    dsimp only [CT] at h'
    have hw : PW RR ok p (X.touch P k) (m + 3) w' F' := ⟨by
      unfold CT PS.touch
      dsimp only
      rw [e1, e2, e3, if_pos hp]
      exact h', hI, by
      unfold PS.touch
      dsimp only
      rw [if_pos hp]
      refine hE (ev := upd (evO X.f) k false) (S.more (S.okSet false (S.okOld H.2.2 (by omega) h1 hk rfl) (by omega) hk (by show ¬ (X.f k).id = 0; exact h0)) (by omega)) (fun i hi => rfl)⟩
    exact hw
  · have hI0 : idB p.n X.f k = false := by rw [idB_at hk]; simp [hp]
    refine (touch_more S (H.1.more (Nat.le_succ m)) (by omega) hk h1 (S.more H.2.2 (Nat.le_succ m)) rfl hp (by have := (H.1.me.bd.2 k).2.2; show (X.f k).pins < m + 1; exact Nat.lt_succ_of_le this)).mono ?_
    rintro e w' ⟨he, hl⟩
    refine ⟨he, hl.mono (fun F' h' => ?_)⟩
    dsimp only [CT] at h'
    have hw : PW RR ok p (X.touch P k) (m + 3) w' F' := ⟨by
      unfold CT PS.touch
      dsimp only
      rw [e1, e2, e3, if_neg hp, updB_id hI0]
      exact h', hI, by
      unfold PS.touch
      dsimp only
      rw [if_neg hp]
      refine hE (ev := evO X.f) (S.more (S.okOld H.2.2 (by omega) h1 hk rfl) (by omega)) (fun i hi => ?_)
      by_cases e : i = k
      · rw [e, upd_same]; unfold evO; simp [hp]
      · rw [upd_other _ _ e]⟩
    exact hw
set_option maxHeartbeats 1000000 in
theorem fe_no (H : PW RR ok p X m w F) {id : Nat} (hu : id < 4294967296) (hh : X.D.has id = false) : Calls Tryz.prog 36 #[p.ptr, .int .u32 id] w fun e w' => e = .returned (.int .i64 3) ∧ w = w' := by
  have HA := Lib.hid (find_none H.1.me hu (plO_none hh))
  unfold PP.ptr at *
  clear H S hh hu
  go_enter Tryz.func36, Tryz.ntmps36
  go_wp2_with fail
  refine HA.out.mono ?_
  rintro e w1 ⟨rfl, rfl⟩
  go_wp2
  go_returns
  exact ⟨rfl, rfl⟩
set_option maxHeartbeats 1000000 in
theorem fe_in (H : PW RR ok p X m w F) (hm : m < 60000) {id k : Nat} (hu : id < 4294967296) (hh : X.D.has id = true) (hk : frm p.n X.f id = some k) : Calls Tryz.prog 36 #[p.ptr, .int .u32 id] w fun e w' => e = .returned (.int .i64 0) ∧ Led (PW RR ok p (X.touch P k) (m + 3)) F w w' := by
  obtain ⟨h1, h2, h3⟩ := H.2.1.fpos hh hk
  have HA := Lib.hid (find_some H.1.me hu (plO_some hh hk))
  have HT := Lib.hid (touch_pw S H hm h1 (by omega))
  unfold PP.ptr at *
  clear H S hh hu hk h2
  go_enter Tryz.func36, Tryz.ntmps36
  go_wp2_with fail
  refine HA.out.mono ?_
  rintro e w1 ⟨rfl, rfl⟩
  have hne : ((k : Int) == (-1)) = false := by simp <;> omega
  go_wp2_with fail
  refine HT.out.mono ?_
  rintro e w1 ⟨rfl, hl⟩
  have HL := Lib.hid hl
  clear hl
  go_wp2
  go_returns
  exact ⟨rfl, HL.out⟩
set_option maxHeartbeats 1000000 in
theorem fe_all (H : PW RR ok p X m w F) {id : Nat} (hu : id < 4294967296) (hh : X.D.has id = true) (hk : frm p.n X.f id = none) (ha : X.all p.n = true) : Calls Tryz.prog 36 #[p.ptr, .int .u32 id] w fun e w' => e = .returned (.int .i64 6) ∧ w = w' := by
  have HA := Lib.hid (find_some H.1.me hu (plO_out hh hk))
  have hall := allp_calls H.1.me
  rw [show (CT p.n X).E = emB p.n X.f from rfl, show (CT p.n X).I = idB p.n X.f from rfl, X.all_eq, ha] at hall
  have HB := Lib.hid hall
  unfold PP.ptr at *
  clear H S hh hu hk hall
  go_enter Tryz.func36, Tryz.ntmps36
  go_wp2_with fail
  refine HA.out.mono ?_
  rintro e w1 ⟨rfl, rfl⟩
  go_wp2_with fail
  refine HB.out.mono ?_
  rintro e w1 ⟨rfl, rfl⟩
  go_wp2
  go_returns
  exact ⟨rfl, rfl⟩
theorem fe_room (H : PW RR ok p X m w F) (hm : m < 60000) {id : Nat} (hu : id < 4294967296) (hh : X.D.has id = true) (hk : frm p.n X.f id = none) (ha : ¬ X.all p.n = true) :
    Calls Tryz.prog 48 #[p.ptr, .int .u32 id] w (fun e w' => e = .returned (.tuple #[.int .i64 (plZ (X.room P p.n id).1.1), .int .i64 (X.room P p.n id).1.2]) ∧ Led (PW RR ok p (X.room P p.n id).2 (m + 6)) F w w') ∧
    (∀ i, i < p.n → ¬ ((X.room P p.n id).2.f i).id = id) ∧ (X.room P p.n id).2.D.has id = true ∧
    (∀ k, (X.room P p.n id).1.1 = some k → (X.room P p.n id).1.2 = 0 ∧ k < p.n ∧ (X.room P p.n id).2.f k = zF) ∧ ((X.room P p.n id).1.1 = none → ¬ (X.room P p.n id).1.2 = 0) := by
  have h1 := H.2.1.pos hh
  have hno := frm_none hk
  obtain ⟨r1, r2, r3, r4, r5, r6, r7, r8⟩ := room_inv S (D0 := X.D) H.2.1 (by omega) H.2.2 h1 hno ha
  refine ⟨(room_calls S (pl := plO p.n X.f X.D) H.1 H.2.1.inj (by omega) H.2.2 h1 hu hno ha).mono ?_, r3, by rw [r4]; exact hh, r7, fun q => (r8 q).1⟩
  rintro e w' ⟨he, hl⟩
  refine ⟨he, hl.mono (fun F' h' => ⟨?_, r1, r2⟩)⟩
  have e6 := r6 X.D H.2.1
  rw [e6, ← plO_D r4] at h'
  exact h'
set_option maxHeartbeats 1000000 in
theorem fe_fail (H : PW RR ok p X m w F) (hm : m < 60000) {id : Nat} (hu : id < 4294967296) (hh : X.D.has id = true) (hk : frm p.n X.f id = none) (ha : ¬ X.all p.n = true) (hr : (X.room P p.n id).1.1 = none) : Calls Tryz.prog 36 #[p.ptr, .int .u32 id] w fun e w' => e = .returned (.int .i64 (X.room P p.n id).1.2) ∧ Led (PW RR ok p (X.room P p.n id).2 (m + 6)) F w w' := by
  have HA := Lib.hid (find_some H.1.me hu (plO_out hh hk))
  have hall := allp_calls H.1.me
  rw [show (CT p.n X).E = emB p.n X.f from rfl, show (CT p.n X).I = idB p.n X.f from rfl, X.all_eq, Bool.eq_false_iff.2 ha] at hall
  have HB := Lib.hid hall
  obtain ⟨hc, _, _, _, r8⟩ := fe_room S H hm hu hh hk ha
  have HC := Lib.hid hc
  have r9 := r8 hr
  have hne : ((((X.room P p.n id).1.2 : Nat) : Int) == 0) = false := by simp <;> exact r9
  rw [hr, show plZ none = -1 from rfl] at HC
  generalize (X.room P p.n id).1.2 = er at *
  generalize (X.room P p.n id).2 = R at *
  unfold PP.ptr at *
  clear H S hh hu hk hall hc r8 r9 hr ha
  go_enter Tryz.func36, Tryz.ntmps36
  go_wp2_with fail
  refine HA.out.mono ?_
  rintro e w1 ⟨rfl, rfl⟩
  go_wp2_with fail
  refine HB.out.mono ?_
  rintro e w1 ⟨rfl, rfl⟩
  go_wp2_with fail
  refine HC.out.mono ?_
  rintro e w1 ⟨rfl, hl⟩
  have HL := Lib.hid hl
  clear hl
  go_wp2
  go_returns
  exact ⟨rfl, HL.out⟩
end
end Go.Proofs.YtmpjnphnljakiaaGreatDoor
namespace Go.Proofs.YtmpjnphnljakiaaGreatDoor
open Go.RowKit Go.Maps
set_option linter.unusedVariables false
set_option linter.unusedSimpArgs false
set_option linter.unusedSectionVars false
set_option maxRecDepth 100000
theorem upd_upd {α : Type} (f : Nat → α) (k : Nat) (x y : α) : upd (upd f k x) k y = upd f k y := by
  funext i
  by_cases e : i = k
  · rw [e, upd_same, upd_same]
  · rw [upd_other _ _ e, upd_other _ _ e, upd_other _ _ e]
theorem upd_id {α : Type} (f : Nat → α) (k : Nat) (x : α) (h : f k = x) : upd f k x = f := by
  funext i
  by_cases e : i = k
  · rw [e, upd_same, h]
  · rw [upd_other _ _ e]
section
variable {τ : Type} {P : Adv τ} {RR : World → τ → (Nat → Prop) → Prop} {ok : Nat → τ → (Nat → Nat) → (Nat → Bool) → Prop} {p : PP} (S : RepSys P RR p.pb p.rv p.n ok) {w w' : World} {m : Nat} {F : Nat → Prop} {X : PS τ} {T : PT τ}
include S
theorem enter_pw (H : PW RR ok p X m w F) (hm : m < 70000) (hm1 : 1 ≤ m) {k id : Nat} (hk : k < p.n) (hz : X.f k = zF) (hh : X.D.has id = true) (hu : id < 4294967296) (hno : ∀ i, i < p.n → ¬ (X.f i).id = id) : Calls Tryz.prog 50 #[p.ptr, .int .i64 k, .int .u32 id] w fun e w' => e = .returned (.tuple #[]) ∧ Led (PW RR ok p { X with f := upd X.f k ⟨id, 0, 1, false⟩, A := P.access X.A k id } (m + 1)) F w w' := by
  have h1 := H.2.1.pos hh
  have hk0 : (X.f k).id = 0 := by rw [hz]; rfl
  have hno' : ∀ i, i < p.n → ¬ pgO X.f i = id := hno
  refine (enter_calls S H.1 (by omega) hk h1 hu H.2.2 hk0 hno' hm1).mono ?_
  rintro e w' ⟨he, hl⟩
  refine ⟨he, hl.mono (fun F' h' => ?_)⟩
  dsimp only [CT] at h'
  have e3 : idB p.n X.f k = false := by rw [idB_at hk, hk0]; simp
  have hx : decide (id = 0) = false := decide_eq_false (by omega)
  have hw : PW RR ok p { X with f := upd X.f k ⟨id, 0, 1, false⟩, A := P.access X.A k id } (m + 1) w' F' := ⟨by
    unfold CT
    dsimp only
    rw [plO_enter (x := ⟨id, 0, 1, false⟩) H.2.1 hk hk0 hh hno, emB_upd hk, idB_upd hk]
    dsimp only
    rw [hx, show (decide (¬ id = 0) && decide (1 = 0)) = false from by simp, updB_id e3]
    exact h', H.2.1.enter hk hk0 hh hno (by show 0 < _; omega), by
    show ok (m + 1) (P.access X.A k id) (pgO (upd X.f k ⟨id, 0, 1, false⟩)) (evO (upd X.f k ⟨id, 0, 1, false⟩))
    rw [pgO_upd, evO_upd]
    exact S.okNew H.2.2 (by omega) h1 hk hk0 hno'⟩
  exact hw
theorem read_pw (H : PW RR ok p X m w F) (hm : m < 70000) {id : Nat} (hu : id < 4294967296) : Calls Tryz.prog 52 #[.pointer (some ⟨p.db, 0, none⟩), .int .u32 id] w fun e w' => e = .returned (.tuple #[.int .u64 (X.D.read id).1.1, .int .i64 (X.D.read id).1.2]) ∧ Led (PW RR ok p { X with D := (X.D.read id).2 } (m + 1)) F w w' := by
  refine (H.1.read S (by omega) hu).mono ?_
  rintro e w' ⟨he, hl⟩
  refine ⟨he, hl.mono (fun F' h' => ?_)⟩
  dsimp only [CT] at h'
  have hw : PW RR ok p { X with D := (X.D.read id).2 } (m + 1) w' F' := ⟨by
    unfold CT
    dsimp only
    rw [plO_D (fun x => RS.read_has X.D id x)]
    exact h', H.2.1.read id, S.more H.2.2 (by omega)⟩
  exact hw
theorem remove_pw (H : PW RR ok p X m w F) (hm : m < 70000) {k : Nat} (hk : k < p.n) (h0 : ¬ (X.f k).id = 0) : Calls Tryz.prog 53 #[p.ptr, .int .i64 k] w fun e w' => e = .returned (.tuple #[]) ∧ Led (PW RR ok p { X with f := upd X.f k zF, A := P.remove X.A k } (m + 1)) F w w' := by
  have hE : emB p.n X.f k = false := by rw [emB_at hk]; simp [h0]
  refine (remove_calls S H.1 (by omega) hk hE H.2.2 h0).mono ?_
  rintro e w' ⟨he, hl⟩
  refine ⟨he, hl.mono (fun F' h' => ?_)⟩
  dsimp only [CT] at h'
  have hw : PW RR ok p { X with f := upd X.f k zF, A := P.remove X.A k } (m + 1) w' F' := ⟨by
    unfold CT
    dsimp only
    rw [plO_vac H.2.1 hk h0, emB_upd hk, idB_upd hk]
    exact h', H.2.1.vac hk, by
    show ok (m + 1) (P.remove X.A k) (pgO (upd X.f k zF)) (evO (upd X.f k zF))
    rw [pgO_upd, evO_upd]
    refine S.same (S.okRem H.2.2 (by omega) hk h0) (fun i hi => rfl) (fun i hi q => ?_)
    by_cases e : i = k
    · rw [e, upd_same] at q; exact absurd rfl q
    · rw [upd_other _ _ e, upd_other _ _ e]⟩
  exact hw
/-- Cells of a frame are written; its page and its pins stay. -/
theorem cell_pw (H : PW RR ok p X m w F) {k : Nat} (hk : k < p.n) (h0 : ¬ (X.f k).id = 0) {x : FrS} (hx : x.id = (X.f k).id) (hp : x.pins = (X.f k).pins) (hxv : x.val < 18446744073709551616) (h : MP w' p (upd X.f k x) (CT p.n X).pl (CT p.n X).E (CT p.n X).I X.sc (m + 1)) (g : Fr p.own w w') : Led (PW RR ok p { X with f := upd X.f k x } (m + 1)) F w w' := by
  refine (H.1.set h g (Nat.le_succ m) S).mono (fun F' h' => ?_)
  dsimp only [CT] at h'
  have hw : PW RR ok p { X with f := upd X.f k x } (m + 1) w' F' := ⟨by
    unfold CT
    dsimp only
    rw [plO_same hk hx, emB_upd hk, idB_upd hk, hx, hp, updB_id (emB_at hk), updB_id (idB_at hk)]
    exact h', H.2.1.keep hk hx h0 hxv, by
    show ok (m + 1) X.A (pgO (upd X.f k x)) (evO (upd X.f k x))
    rw [pgO_upd, evO_upd, hx, hp]
    refine S.same (S.more H.2.2 (Nat.le_succ m)) (fun i hi => ?_) (fun i hi q => ?_)
    · by_cases e : i = k
      · rw [e, upd_same]; rfl
      · rw [upd_other _ _ e]
    · by_cases e : i = k
      · rw [e, upd_same]; rfl
      · rw [upd_other _ _ e]⟩
  exact hw
set_option maxHeartbeats 1000000 in
theorem fe_err (H : PW RR ok p X m w F) (hm : m < 60000) {id k : Nat} (hu : id < 4294967296) (hh : X.D.has id = true) (hk : frm p.n X.f id = none) (ha : ¬ X.all p.n = true) (hr : (X.room P p.n id).1.1 = some k) (hq : ¬ ((X.room P p.n id).2.D.read id).1.2 = 0) : Calls Tryz.prog 36 #[p.ptr, .int .u32 id] w fun e w' => e = .returned (.int .i64 ((X.room P p.n id).2.D.read id).1.2) ∧
    Led (PW RR ok p { (X.room P p.n id).2 with D := ((X.room P p.n id).2.D.read id).2, A := P.remove (P.access (X.room P p.n id).2.A k id) k } (m + 10)) F w w' := by
  have HA := Lib.hid (find_some H.1.me hu (plO_out hh hk))
  have hall := allp_calls H.1.me
  rw [show (CT p.n X).E = emB p.n X.f from rfl, show (CT p.n X).I = idB p.n X.f from rfl, X.all_eq, Bool.eq_false_iff.2 ha] at hall
  have HB := Lib.hid hall
  have h1 := H.2.1.pos hh
  obtain ⟨hc, r3, r4, r7, _⟩ := fe_room S H hm hu hh hk ha
  obtain ⟨r9, r10, r11⟩ := r7 k hr
  have HC := Lib.hid hc
  rw [hr, r9, show plZ (some k) = (k : Int) from rfl] at HC
  clear r7 hc hr r9
  generalize (X.room P p.n id).2 = R at *
  have HE : Hid (∀ w1 F1, PW RR ok p R (m + 6) w1 F1 → Calls Tryz.prog 50 #[p.ptr, .int .i64 k, .int .u32 id] w1 fun e w' => e = .returned (.tuple #[]) ∧ Led (PW RR ok p { R with f := upd R.f k ⟨id, 0, 1, false⟩, A := P.access R.A k id } (m + 7)) F1 w1 w') := fun w1 F1 h => enter_pw S h (by omega) (by omega) r10 r11 r4 hu r3
  have HR : Hid (∀ w1 F1, PW RR ok p { R with f := upd R.f k ⟨id, 0, 1, false⟩, A := P.access R.A k id } (m + 7) w1 F1 → Calls Tryz.prog 52 #[.pointer (some ⟨p.db, 0, none⟩), .int .u32 id] w1 fun e w' => e = .returned (.tuple #[.int .u64 (R.D.read id).1.1, .int .i64 (R.D.read id).1.2]) ∧ Led (PW RR ok p { R with f := upd R.f k ⟨id, 0, 1, false⟩, A := P.access R.A k id, D := (R.D.read id).2 } (m + 8)) F1 w1 w') := fun w1 F1 h => read_pw S h (by omega) hu
  have HM : Hid (∀ w1 F1, PW RR ok p { R with f := upd R.f k ⟨id, 0, 1, false⟩, A := P.access R.A k id, D := (R.D.read id).2 } (m + 8) w1 F1 → Calls Tryz.prog 53 #[p.ptr, .int .i64 k] w1 fun e w' => e = .returned (.tuple #[]) ∧ Led (PW RR ok p { R with D := (R.D.read id).2, A := P.remove (P.access R.A k id) k } (m + 10)) F1 w1 w') := fun w1 F1 h => by
    refine (remove_pw S h (by omega) r10 (by dsimp only; rw [upd_same]; show ¬ id = 0; omega)).mono ?_
    rintro e w' ⟨he, hl⟩
    refine ⟨he, hl.mono (fun F' h' => ?_)⟩
    dsimp only at h'
    rw [upd_upd, upd_id _ _ _ r11] at h'
    exact h'.more S (by omega)
  have hne : ((((R.D.read id).1.2 : Nat) : Int) == 0) = false := by simp <;> exact hq
  have KC : Hid (∀ (Y : PS τ) j w1 F1, PW RR ok p Y j w1 F1 → w1.cell? ⟨p.pb, 0, none⟩ = some (.pointer (some ⟨p.db, 0, none⟩)) ∧ p.pb < w1.heap.size) := fun Y j w1 F1 h => h.1.c0
  unfold PP.ptr at *
  clear H S hh hu hk hall ha r3 r4 r10 r11 hq h1
  go_enter Tryz.func36, Tryz.ntmps36
  go_wp2_with fail
  refine HA.out.mono ?_
  rintro e w1 ⟨rfl, rfl⟩
  go_wp2_with fail
  refine HB.out.mono ?_
  rintro e w1 ⟨rfl, rfl⟩
  go_wp2_with fail
  refine HC.out.mono ?_
  rintro e w1 ⟨rfl, F1, h1, g1, k1⟩
  have HE1 := Lib.hid (HE.out w1 F1 h1)
  have G1 := Lib.hid g1
  have K1 := Lib.hid k1
  clear h1 g1 k1 HE
  go_wp2_with fail
  refine HE1.out.mono ?_
  rintro e w2 ⟨rfl, F2, h2, g2, k2⟩
  have HR2 := Lib.hid (HR.out w2 F2 h2)
  obtain ⟨c2, lb2⟩ := KC.out _ _ w2 F2 h2
  have G2 := Lib.hid g2
  have K2 := Lib.hid k2
  clear h2 g2 k2 HR HE1
  go_wp2_with fail
  refine HR2.out.mono ?_
  rintro e w3 ⟨rfl, F3, h3, g3, k3⟩
  have HM3 := Lib.hid (HM.out w3 F3 h3)
  have G3 := Lib.hid g3
  have K3 := Lib.hid k3
  clear h3 g3 k3 HM HR2
  go_wp2_with fail
  refine HM3.out.mono ?_
  rintro e w4 ⟨rfl, hl⟩
  have HL := Lib.hid hl
  clear hl
  go_wp2
  go_returns
  exact ⟨rfl, Led.trans (R := fun _ _ => True) G1.out K1.out (Led.trans (R := fun _ _ => True) G2.out K2.out (Led.trans (R := fun _ _ => True) G3.out K3.out HL.out))⟩
set_option maxHeartbeats 1000000 in
theorem fe_ok (H : PW RR ok p X m w F) (hm : m < 60000) {id k : Nat} (hu : id < 4294967296) (hh : X.D.has id = true) (hk : frm p.n X.f id = none) (ha : ¬ X.all p.n = true) (hr : (X.room P p.n id).1.1 = some k) (hq : ((X.room P p.n id).2.D.read id).1.2 = 0) (hv : ((X.room P p.n id).2.D.read id).1.1 < 18446744073709551616) : Calls Tryz.prog 36 #[p.ptr, .int .u32 id] w fun e w' => e = .returned (.int .i64 0) ∧
    Led (PW RR ok p { (X.room P p.n id).2 with f := upd (X.room P p.n id).2.f k ⟨id, ((X.room P p.n id).2.D.read id).1.1, 1, false⟩, D := ((X.room P p.n id).2.D.read id).2, A := P.access (X.room P p.n id).2.A k id } (m + 10)) F w w' := by
  have HA := Lib.hid (find_some H.1.me hu (plO_out hh hk))
  have hall := allp_calls H.1.me
  rw [show (CT p.n X).E = emB p.n X.f from rfl, show (CT p.n X).I = idB p.n X.f from rfl, X.all_eq, Bool.eq_false_iff.2 ha] at hall
  have HB := Lib.hid hall
  have h1 := H.2.1.pos hh
  have hn := H.1.me.hn
  obtain ⟨hc, r3, r4, r7, _⟩ := fe_room S H hm hu hh hk ha
  obtain ⟨r9, r10, r11⟩ := r7 k hr
  have HC := Lib.hid hc
  rw [hr, r9, show plZ (some k) = (k : Int) from rfl] at HC
  clear r7 hc hr r9
  generalize (X.room P p.n id).2 = R at *
  have HE : Hid (∀ w1 F1, PW RR ok p R (m + 6) w1 F1 → Calls Tryz.prog 50 #[p.ptr, .int .i64 k, .int .u32 id] w1 fun e w' => e = .returned (.tuple #[]) ∧ Led (PW RR ok p { R with f := upd R.f k ⟨id, 0, 1, false⟩, A := P.access R.A k id } (m + 7)) F1 w1 w') := fun w1 F1 h => enter_pw S h (by omega) (by omega) r10 r11 r4 hu r3
  have HR : Hid (∀ w1 F1, PW RR ok p { R with f := upd R.f k ⟨id, 0, 1, false⟩, A := P.access R.A k id } (m + 7) w1 F1 → Calls Tryz.prog 52 #[.pointer (some ⟨p.db, 0, none⟩), .int .u32 id] w1 fun e w' => e = .returned (.tuple #[.int .u64 (R.D.read id).1.1, .int .i64 0]) ∧ Led (PW RR ok p { R with f := upd R.f k ⟨id, 0, 1, false⟩, A := P.access R.A k id, D := (R.D.read id).2 } (m + 8)) F1 w1 w') := fun w1 F1 h => by
    have := read_pw S h (by omega) hu
    dsimp only at this
    rw [hq] at this
    exact this
  have HM : Hid (∀ w1 F1, PW RR ok p { R with f := upd R.f k ⟨id, 0, 1, false⟩, A := P.access R.A k id, D := (R.D.read id).2 } (m + 8) w1 F1 → Led (PW RR ok p { R with f := upd R.f k ⟨id, (R.D.read id).1.1, 1, false⟩, D := (R.D.read id).2, A := P.access R.A k id } (m + 10)) F1 w1 (w1.setCell ⟨p.fb, k * 4 + 1, none⟩ (.int .u64 (R.D.read id).1.1))) := fun w1 F1 h => by
    have he : upd (frV (upd R.f k ⟨id, 0, 1, false⟩)) (k * 4 + 1) (.int .u64 (R.D.read id).1.1) = frV (upd (upd R.f k ⟨id, 0, 1, false⟩) k ⟨id, (R.D.read id).1.1, 1, false⟩) := by
      have := frV_setv (upd R.f k ⟨id, 0, 1, false⟩) k (R.D.read id).1.1
      rw [upd_same] at this
      exact this
    obtain ⟨q1, q2⟩ := h.1.me.put1 (m' := m + 9) (j := 1) r10 ⟨id, (R.D.read id).1.1, 1, false⟩ _ he (by omega) ⟨hu, hv, by show 1 ≤ m + 9; omega⟩
    refine (cell_pw S h (x := ⟨id, (R.D.read id).1.1, 1, false⟩) r10 (by dsimp only; rw [upd_same]; show ¬ id = 0; omega) (by dsimp only; rw [upd_same]) (by dsimp only; rw [upd_same]) hv q1 (q2.mono (fun i q => .inr (.inl q)))).mono (fun F' h' => ?_)
    dsimp only at h'
    rw [upd_upd] at h'
    exact h'.more S (by omega)
  have KC : Hid (∀ (Y : PS τ) j w1 F1, PW RR ok p Y j w1 F1 → w1.cell? ⟨p.pb, 0, none⟩ = some (.pointer (some ⟨p.db, 0, none⟩)) ∧ p.pb < w1.heap.size) := fun Y j w1 F1 h => h.1.c0
  have KD : Hid (∀ (Y : PS τ) j w1 F1, PW RR ok p Y j w1 F1 → w1.cell? ⟨p.pb, 2, none⟩ = some (.slice (some ⟨p.fb, 0, none⟩) p.n p.n) ∧ p.fb < w1.heap.size ∧ w1.cell? ⟨p.fb, k * 4 + 1, none⟩ = some (.int .u64 (Y.f k).val) ∧ w1.frozen? ⟨p.fb, k * 4 + 1, none⟩ = false) := fun Y j w1 F1 h => ⟨h.1.me.ce 2 (by omega), h.1.me.fr.lt, (h.1.me.cf r10).2.1, h.1.me.fr.frozen _⟩
  unfold PP.ptr at *
  clear H S hh hu hk hall ha r3 r4 r11 hq h1 hv
  go_enter Tryz.func36, Tryz.ntmps36
  go_wp2_with fail
  refine HA.out.mono ?_
  rintro e w1 ⟨rfl, rfl⟩
  go_wp2_with fail
  refine HB.out.mono ?_
  rintro e w1 ⟨rfl, rfl⟩
  go_wp2_with fail
  refine HC.out.mono ?_
  rintro e w1 ⟨rfl, F1, h1, g1, k1⟩
  have HE1 := Lib.hid (HE.out w1 F1 h1)
  have G1 := Lib.hid g1
  have K1 := Lib.hid k1
  clear h1 g1 k1 HE
  go_wp2_with fail
  refine HE1.out.mono ?_
  rintro e w2 ⟨rfl, F2, h2, g2, k2⟩
  have HR2 := Lib.hid (HR.out w2 F2 h2)
  obtain ⟨c2, lb2⟩ := KC.out _ _ w2 F2 h2
  have G2 := Lib.hid g2
  have K2 := Lib.hid k2
  clear h2 g2 k2 HR HE1
  go_wp2_with fail
  refine HR2.out.mono ?_
  rintro e w3 ⟨rfl, F3, h3, g3, k3⟩
  have HM3 := Lib.hid (HM.out w3 F3 h3)
  obtain ⟨c3, lb3⟩ := KC.out _ _ w3 F3 h3
  obtain ⟨d1, d2, d3, d4⟩ := KD.out _ _ w3 F3 h3
  have G3 := Lib.hid g3
  have K3 := Lib.hid k3
  clear h3 g3 k3 HM HR2
  go_wp2
  go_returns
  exact ⟨rfl, Led.trans (R := fun _ _ => True) G1.out K1.out (Led.trans (R := fun _ _ => True) G2.out K2.out (Led.trans (R := fun _ _ => True) G3.out K3.out HM3.out))⟩
theorem fe_calls (H : PW RR ok p X m w F) (hm : m < 60000) {id : Nat} (hu : id < 4294967296) : Calls Tryz.prog 36 #[p.ptr, .int .u32 id] w fun e w' => e = .returned (.int .i64 (X.fetch P p.n id).1) ∧ Led (PW RR ok p (X.fetch P p.n id).2 (m + 10)) F w w' := by
  unfold PS.fetch
  by_cases hh : X.D.has id = true
  · rw [if_pos hh]
    cases hk : frm p.n X.f id with
    | some k =>
      refine (fe_in S H hm hu hh hk).mono ?_
      rintro e w' ⟨he, hl⟩
      exact ⟨he, hl.mono (fun F' h => h.more S (by omega))⟩
    | none =>
      dsimp only
      by_cases ha : X.all p.n = true
      · rw [if_pos ha]
        refine (fe_all S H hu hh hk ha).mono ?_
        rintro e w' ⟨he, rfl⟩
        exact ⟨he, Led.refl (H.more S (by omega))⟩
      · rw [if_neg ha]
        have hno := frm_none hk
        obtain ⟨r1, _⟩ := room_inv S (D0 := X.D) H.2.1 (by omega) H.2.2 (H.2.1.pos hh) hno ha
        cases hr : (X.room P p.n id).1.1 with
        | none =>
          refine (fe_fail S H hm hu hh hk ha hr).mono ?_
          rintro e w' ⟨he, hl⟩
          exact ⟨he, hl.mono (fun F' h => h.more S (by omega))⟩
        | some k =>
          dsimp only
          by_cases hq : ((X.room P p.n id).2.D.read id).1.2 = 0
          · rw [if_pos hq]
            exact fe_ok S H hm hu hh hk ha hr hq (RS.read_v r1.vd)
          · rw [if_neg hq]
            exact fe_err S H hm hu hh hk ha hr hq
  · rw [if_neg hh]
    refine (fe_no S H hu (by simpa using hh)).mono ?_
    rintro e w' ⟨he, rfl⟩
    exact ⟨he, Led.refl (H.more S (by omega))⟩
end
end Go.Proofs.YtmpjnphnljakiaaGreatDoor
namespace Go.Proofs.YtmpjnphnljakiaaGreatDoor
open Go.RowKit Go.Maps
set_option linter.unusedVariables false
set_option linter.unusedSimpArgs false
set_option linter.unusedSectionVars false
set_option maxRecDepth 100000
section
variable {τ : Type} {P : Adv τ} {RR : World → τ → (Nat → Prop) → Prop} {ok : Nat → τ → (Nat → Nat) → (Nat → Bool) → Prop} {p : PP} (S : RepSys P RR p.pb p.rv p.n ok) {w w' : World} {m : Nat} {F : Nat → Prop} {X : PS τ} {T : PT τ}
theorem held_case {n : Nat} (H : Inv n X.f X.D) (id : Nat) : ((X.held n id).2 = 0 ∧ (X.held n id).1 < n ∧ plO n X.f X.D id = some ((X.held n id).1 : Int) ∧ ¬ (X.f (X.held n id).1).pins = 0 ∧ (X.f (X.held n id).1).id = id ∧ 1 ≤ id ∧ X.D.has id = true ∧ frm n X.f id = some (X.held n id).1) ∨ (¬ (X.held n id).2 = 0 ∧ HeldNo n X.f (plO n X.f X.D) id (X.held n id).2) := by
  unfold PS.held
  by_cases hh : X.D.has id = true
  · rw [if_pos hh]
    cases hk : frm n X.f id with
    | none => exact .inr ⟨by show ¬ 5 = 0; omega, .inr (.inl ⟨plO_out hh hk, rfl⟩)⟩
    | some k =>
      obtain ⟨h1, h2, h3⟩ := H.fpos hh hk
      dsimp only
      by_cases hp : (X.f k).pins = 0
      · rw [if_pos hp]
        exact .inr ⟨by show ¬ 5 = 0; omega, .inr (.inr ⟨k, h1, plO_some hh hk, hp, rfl⟩)⟩
      · rw [if_neg hp]
        exact .inl ⟨rfl, h1, plO_some hh hk, hp, h2, h3, hh, rfl⟩
  · rw [if_neg hh]
    exact .inr ⟨by show ¬ 3 = 0; omega, .inl ⟨plO_none (by simpa using hh), rfl⟩⟩
include S
set_option maxHeartbeats 1000000 in
theorem un_no (H : PW RR ok p X m w F) {id e0 : Nat} (hu : id < 4294967296) (h0 : ¬ e0 = 0) (hh : HeldNo p.n X.f (plO p.n X.f X.D) id e0) : Calls Tryz.prog 37 #[p.ptr, .int .u32 id] w fun e w' => e = .returned (.int .i64 e0) ∧ Fr NoF w w' := by
  have HA := Lib.hid (held_no H.1.me hu hh)
  have hne : (((e0 : Nat) : Int) == 0) = false := by simp <;> exact h0
  unfold PP.ptr at *
  clear H S hh hu
  go_enter Tryz.func37, Tryz.ntmps37
  go_wp2_with fail
  refine HA.out.mono ?_
  rintro e w1 ⟨rfl, rfl⟩
  go_wp2
  go_returns
  exact ⟨rfl, (Fr.refl NoF w).alloc _⟩
set_option maxHeartbeats 4000000 in
theorem un_last (H : PW RR ok p X m w F) (hm : m < 60000) {id k : Nat} (hu : id < 4294967296) (hk : k < p.n) (hpl : plO p.n X.f X.D id = some (k : Int)) (hid : (X.f k).id = id) (h1 : 1 ≤ id) (hp : (X.f k).pins = 1) : Calls Tryz.prog 37 #[p.ptr, .int .u32 id] w fun e w' => e = .returned (.int .i64 0) ∧
    Led (PW RR ok p { X with f := upd X.f k { X.f k with pins := (X.f k).pins - 1 }, A := P.set X.A k true } (m + 4)) F w w' := by
  have HA := Lib.hid (held_yes H.1.me hu hk hpl (by show ¬ (X.f k).pins = 0; omega))
  obtain ⟨b1, b3, b4⟩ := box1 w (.int .i64 k) 3
  have H1 := H.1.fr0 S b4
  have lb := H1.me.hd.lt
  have lf := H1.me.fr.lt
  have hlt := H.1.lt S
  have c2 : (w.alloc (.cells #[.int .i64 k] 3)).cell? ⟨p.pb, 2, none⟩ = some (.slice (some ⟨p.fb, 0, none⟩) p.n p.n) := H1.me.ce 2 (by omega)
  have hn := H.1.me.hn
  obtain ⟨e0, e1, e2, e3⟩ := H1.me.cf hk
  have z2 := H1.me.fr.frozen (k * 4 + 2)
  have hnF1 : ¬ F w.heap.size := fun q => by have := hlt _ q; omega
  have hid0 : ¬ (X.f k).id = 0 := by omega
  have hbf := H.1.me.bd.2 k
  have KP : Hid (∀ z : Int, z = (((X.f k).pins - 1 : Nat) : Int) → PI RR p { CT p.n X with f := upd X.f k { X.f k with pins := (X.f k).pins - 1 } } m ((w.alloc (.cells #[.int .i64 k] 3)).setCell ⟨p.fb, k * 4 + 2, none⟩ (.int .i64 z)).drew F ∧ Fr F (w.alloc (.cells #[.int .i64 k] 3)) ((w.alloc (.cells #[.int .i64 k] 3)).setCell ⟨p.fb, k * 4 + 2, none⟩ (.int .i64 z)).drew) := fun z hz => by
    subst hz
    obtain ⟨q1, q2⟩ := H1.me.put1 (m' := m) (j := 2) hk { X.f k with pins := (X.f k).pins - 1 } (.int .i64 (((X.f k).pins - 1 : Nat) : Int)) (frV_setp X.f k _) (Nat.le_refl _) ⟨hbf.1, hbf.2.1, Nat.le_trans (Nat.sub_le _ _) hbf.2.2⟩
    obtain ⟨FD, FR, h, hF⟩ := H1
    have g : Fr p.own (w.alloc (.cells #[.int .i64 k] 3)) ((w.alloc (.cells #[.int .i64 k] 3)).setCell ⟨p.fb, k * 4 + 2, none⟩ (.int .i64 (((X.f k).pins - 1 : Nat) : Int))).drew := (q2.drew).mono (fun i q => .inr (.inl q))
    exact ⟨⟨FD, FR, ⟨q1.fr0 ((Fr.refl NoF _).drew), h.cd.fr g (fun i q k => (h.s1 i k).1 q), S.fr h.rr g (fun i q k => (h.s1 i k).2 q), h.s1, h.s2, h.t1⟩, hF⟩, g.mono (fun i q => (hF i).2 (.inl q))⟩
  have KX : Hid (∀ w3 F3, PI RR p { CT p.n X with f := upd X.f k { X.f k with pins := (X.f k).pins - 1 } } m w3 F3 → w3.cell? ⟨p.pb, 2, none⟩ = some (.slice (some ⟨p.fb, 0, none⟩) p.n p.n) ∧ w3.cell? ⟨p.fb, k * 4 + 2, none⟩ = some (.int .i64 ((X.f k).pins - 1 : Nat)) ∧ p.pb < w3.heap.size ∧ p.fb < w3.heap.size) :=
    fun w3 F3 h3 => ⟨h3.me.ce 2 (by omega), by have := (h3.me.cf hk).2.2.1; dsimp only at this; rw [upd_same] at this; exact this, h3.me.hd.lt, h3.me.fr.lt⟩
  have HS : Hid (∀ w3 F3, PI RR p { CT p.n X with f := upd X.f k { X.f k with pins := (X.f k).pins - 1 } } m w3 F3 → PI RR p { CT p.n X with f := upd X.f k { X.f k with pins := (X.f k).pins - 1 } } m w3.drew F3) := fun w3 F3 h3 => h3.fr0 S ((Fr.refl NoF _).drew)
  have e1 : plO p.n (upd X.f k { X.f k with pins := (X.f k).pins - 1 }) X.D = plO p.n X.f X.D := plO_same hk rfl
  have e2 : emB p.n (upd X.f k { X.f k with pins := (X.f k).pins - 1 }) = emB p.n X.f := by
    rw [emB_upd hk]
    exact updB_id (emB_at hk)
  have hI : Inv p.n (upd X.f k { X.f k with pins := (X.f k).pins - 1 }) X.D := H.2.1.keep hk rfl hid0 (H.2.1.vf k hk)
  have e3 : idB p.n (upd X.f k { X.f k with pins := (X.f k).pins - 1 }) = updB (idB p.n X.f) k true := by
    rw [idB_upd hk]
    congr 1
    simp [hid0, hp]
  have hI0 : idB p.n X.f k = false := by rw [idB_at hk]; simp [hp]
  have okS := S.okSet true H.2.2 (by omega) hk (show ¬ pgO X.f k = 0 from hid0)
  have hE : ok (m + 1) (P.set X.A k true) (pgO (upd X.f k { X.f k with pins := (X.f k).pins - 1 })) (evO (upd X.f k { X.f k with pins := (X.f k).pins - 1 })) := by
    refine S.same okS (fun i hi => ?_) (fun i hi _ => ?_)
    · rw [pgO_upd]
      by_cases e : i = k
      · rw [e, upd_same]; rfl
      · rw [upd_other _ _ e]
    · rw [evO_upd]
      by_cases e : i = k
      · rw [e, upd_same, upd_same]; simp [hp]
      · rw [upd_other _ _ e, upd_other _ _ e]
  have KD : Hid (∀ w3 F3, PI RR p { CT p.n X with f := upd X.f k { X.f k with pins := (X.f k).pins - 1 } } m w3 F3 → Calls Tryz.prog 22 #[.pointer (some ⟨p.pb, 7, none⟩), .int .i64 k] w3 fun e w' => e = .returned (.tuple #[]) ∧ Led (PI RR p { CT p.n X with f := upd X.f k { X.f k with pins := (X.f k).pins - 1 }, I := updB (idB p.n X.f) k true } m) F3 w3 w') := fun w3 F3 h3 => by
    refine (mp_addI h3.me hk hI0).mono ?_
    rintro e w4 ⟨he, h4, g4⟩
    exact ⟨he, h3.set h4 g4 (Nat.le_refl _) S⟩
  have KT : Hid (∀ w3 F3, PI RR p { CT p.n X with f := upd X.f k { X.f k with pins := (X.f k).pins - 1 }, I := updB (idB p.n X.f) k true } m w3 F3 → w3.cell? ⟨w.heap.size, 0, none⟩ = some (.int .i64 k) → w.heap.size < w3.heap.size → ¬ F3 w.heap.size →
    Calls Tryz.prog 55 #[p.ptr, .func (.func 56) #[] #[.pointer (some ⟨w.heap.size, 0, none⟩)]] w3 fun e w' => e = .returned (.tuple #[]) ∧ Led (PW RR ok p { X with f := upd X.f k { X.f k with pins := (X.f k).pins - 1 }, A := P.set X.A k true } (m + 4)) F3 w3 w') :=
    fun w3 F3 h3 q1 q2 q3 => by
    refine (h3.tell1 S own_u1 (fun FR hr hF => S.setT hr H.2.2 (by omega) hk (show ¬ pgO X.f k = 0 from hid0) q1 q2 (fun q => q3 (hF _ q)) (.inr rfl))).mono ?_
    rintro e w' ⟨he, hl⟩
    refine ⟨he, hl.mono (fun F' h' => ?_)⟩
    dsimp only [CT] at h'
    have hw : PW RR ok p { X with f := upd X.f k { X.f k with pins := (X.f k).pins - 1 }, A := P.set X.A k true } (m + 1) w' F' := ⟨by
      unfold CT
      dsimp only
      rw [e1, e2, e3]
      exact h'.more (by omega), hI, hE⟩
    exact hw.more S (by omega)
  have hpm : (X.f k).pins < 900000 := by have q : (X.f k).pins ≤ m := hbf.2.2; omega
  have e2' : (w.alloc (.cells #[.int .i64 k] 3)).cell? ⟨p.fb, k * 4 + 2, none⟩ = some (.int .i64 (X.f k).pins) := (H1.me.cf hk).2.2.1
  have hcp : ((((X.f k).pins - 1 : Nat) : Int)) = 0 := by omega
  have hp1 : 1 ≤ (X.f k).pins := by omega
  generalize hxp : (X.f k).pins = xp at *
  have B4 := Lib.hid b4
  have HP := Lib.hid hpm
  generalize hw2 : (w.alloc (.cells #[.int .i64 k] 3)) = w2 at *
  unfold PP.ptr at *
  clear H H1 S hlt b4 hu hbf hpl hid h1 hid0 e0 e1 e2 e3 hI hE hxp hp hI0
  go_enter Tryz.func37, Tryz.ntmps37
  go_wp2_with fail
  refine HA.out.mono ?_
  rintro e w1 ⟨rfl, rfl⟩
  have hcw : IntKind.i64.wrap ((xp : Int) - 1) = (xp : Int) - 1 := IntWalk.i64_in _ (by omega)
  go_wp2_with fail
  try rw [hw2]
  clear hw2
  go_region
  all_goals
    obtain ⟨hA, gA⟩ := KP.out ((xp : Int) - 1) (by omega)
    generalize (w2.setCell ⟨p.fb, k * 4 + 2, none⟩ (.int .i64 ((xp : Int) - 1))).drew = wA at hA gA ⊢
    obtain ⟨y1, y2, y3, y4⟩ := KX.out wA F hA
    have y6 : wA.cell? ⟨w.heap.size, 0, none⟩ = some (.int .i64 k) := by rw [gA.cell (p := ⟨w.heap.size, 0, none⟩) (by show w.heap.size < _; omega) hnF1]; exact b1
    have y7 := gA.size
    have H3 := Lib.hid hA
    have G3 := Lib.hid gA
    clear hA gA KP c2 e2' z2 lb lf e3
    go_wp2_with fail
    rw [hcp] at y2
    go_region
    all_goals
      go_wp2_with fail
      have y6d : wA.drew.cell? ⟨w.heap.size, 0, none⟩ = some (.int .i64 k) := y6
      have y4d : p.pb < wA.drew.heap.size := y3
      have y7d : w2.heap.size ≤ wA.drew.heap.size := y7
      have H3d := Lib.hid (HS.out _ _ H3.out)
      have FD : Hid (Fr F wA wA.drew) := (Fr.refl _ wA).drew
      generalize wA.drew = w3d at y6d y4d y7d H3d FD ⊢
      clear y1 y2 y3 y4 y6
      go_still_tail 4, (by kernel_rfl)
      go_wp2_with fail
      refine (KD.out _ F (HS.out _ _ H3d.out)).mono ?_
      rintro e w4 ⟨rfl, F4, h4, g4, q4⟩
      have z6 : w4.cell? ⟨w.heap.size, 0, none⟩ = some (.int .i64 k) := by rw [g4.cell (p := ⟨w.heap.size, 0, none⟩) (by show w.heap.size < w3d.heap.size; omega) hnF1]; exact y6d
      have z8 : w.heap.size < w4.heap.size := Nat.lt_of_lt_of_le (by show w.heap.size < w3d.heap.size; omega) g4.size
      have n4 : ¬ F4 w.heap.size := fun q => (q4 _ q).elim hnF1 (fun q => by have : w3d.heap.size ≤ w.heap.size := q; omega)
      have HT := Lib.hid (KT.out w4 F4 h4 z6 z8 n4)
      have G4 := Lib.hid g4
      have Q4 := Lib.hid q4
      clear h4 g4 q4 KD KT z6
      go_wp2_with fail
      refine HT.out.mono ?_
      rintro e w5 ⟨rfl, h5⟩
      have H5 := Lib.hid h5
      clear h5
      go_wp2
      go_returns
      exact ⟨rfl, Led.trans (R := fun _ _ => True) (B4.out.mono (fun _ q => q.elim)) (fun i q => .inl q) (Led.trans (R := fun _ _ => True) G3.out (fun i q => .inl q) (Led.trans (R := fun _ _ => True) (FD.out.trans (((Fr.refl _ w3d).drew).trans G4.out (fun i q => .inl q)) (fun i q => .inl q)) (fun i q => (Q4.out i q).imp (fun q => q) (fun q => by have : w3d.heap.size ≤ i := q; have := FD.out.size; omega)) H5.out))⟩
set_option maxHeartbeats 4000000 in
theorem un_more (H : PW RR ok p X m w F) (hm : m < 60000) {id k : Nat} (hu : id < 4294967296) (hk : k < p.n) (hpl : plO p.n X.f X.D id = some (k : Int)) (hid : (X.f k).id = id) (h1 : 1 ≤ id) (hp : 2 ≤ (X.f k).pins) : Calls Tryz.prog 37 #[p.ptr, .int .u32 id] w fun e w' => e = .returned (.int .i64 0) ∧
    Led (PW RR ok p { X with f := upd X.f k { X.f k with pins := (X.f k).pins - 1 } } (m + 4)) F w w' := by
  have HA := Lib.hid (held_yes H.1.me hu hk hpl (by show ¬ (X.f k).pins = 0; omega))
  obtain ⟨b1, b3, b4⟩ := box1 w (.int .i64 k) 3
  have H1 := H.1.fr0 S b4
  have lb := H1.me.hd.lt
  have lf := H1.me.fr.lt
  have hlt := H.1.lt S
  have c2 : (w.alloc (.cells #[.int .i64 k] 3)).cell? ⟨p.pb, 2, none⟩ = some (.slice (some ⟨p.fb, 0, none⟩) p.n p.n) := H1.me.ce 2 (by omega)
  have hn := H.1.me.hn
  obtain ⟨e0, e1, e2, e3⟩ := H1.me.cf hk
  have z2 := H1.me.fr.frozen (k * 4 + 2)
  have hnF1 : ¬ F w.heap.size := fun q => by have := hlt _ q; omega
  have hid0 : ¬ (X.f k).id = 0 := by omega
  have hbf := H.1.me.bd.2 k
  have KP : Hid (∀ z : Int, z = (((X.f k).pins - 1 : Nat) : Int) → PI RR p { CT p.n X with f := upd X.f k { X.f k with pins := (X.f k).pins - 1 } } m ((w.alloc (.cells #[.int .i64 k] 3)).setCell ⟨p.fb, k * 4 + 2, none⟩ (.int .i64 z)).drew F ∧ Fr F (w.alloc (.cells #[.int .i64 k] 3)) ((w.alloc (.cells #[.int .i64 k] 3)).setCell ⟨p.fb, k * 4 + 2, none⟩ (.int .i64 z)).drew) := fun z hz => by
    subst hz
    obtain ⟨q1, q2⟩ := H1.me.put1 (m' := m) (j := 2) hk { X.f k with pins := (X.f k).pins - 1 } (.int .i64 (((X.f k).pins - 1 : Nat) : Int)) (frV_setp X.f k _) (Nat.le_refl _) ⟨hbf.1, hbf.2.1, Nat.le_trans (Nat.sub_le _ _) hbf.2.2⟩
    obtain ⟨FD, FR, h, hF⟩ := H1
    have g : Fr p.own (w.alloc (.cells #[.int .i64 k] 3)) ((w.alloc (.cells #[.int .i64 k] 3)).setCell ⟨p.fb, k * 4 + 2, none⟩ (.int .i64 (((X.f k).pins - 1 : Nat) : Int))).drew := (q2.drew).mono (fun i q => .inr (.inl q))
    exact ⟨⟨FD, FR, ⟨q1.fr0 ((Fr.refl NoF _).drew), h.cd.fr g (fun i q k => (h.s1 i k).1 q), S.fr h.rr g (fun i q k => (h.s1 i k).2 q), h.s1, h.s2, h.t1⟩, hF⟩, g.mono (fun i q => (hF i).2 (.inl q))⟩
  have KX : Hid (∀ w3 F3, PI RR p { CT p.n X with f := upd X.f k { X.f k with pins := (X.f k).pins - 1 } } m w3 F3 → w3.cell? ⟨p.pb, 2, none⟩ = some (.slice (some ⟨p.fb, 0, none⟩) p.n p.n) ∧ w3.cell? ⟨p.fb, k * 4 + 2, none⟩ = some (.int .i64 ((X.f k).pins - 1 : Nat)) ∧ p.pb < w3.heap.size ∧ p.fb < w3.heap.size) :=
    fun w3 F3 h3 => ⟨h3.me.ce 2 (by omega), by have := (h3.me.cf hk).2.2.1; dsimp only at this; rw [upd_same] at this; exact this, h3.me.hd.lt, h3.me.fr.lt⟩
  have HS : Hid (∀ w3 F3, PI RR p { CT p.n X with f := upd X.f k { X.f k with pins := (X.f k).pins - 1 } } m w3 F3 → PI RR p { CT p.n X with f := upd X.f k { X.f k with pins := (X.f k).pins - 1 } } m w3.drew F3) := fun w3 F3 h3 => h3.fr0 S ((Fr.refl NoF _).drew)
  have e1 : plO p.n (upd X.f k { X.f k with pins := (X.f k).pins - 1 }) X.D = plO p.n X.f X.D := plO_same hk rfl
  have e2 : emB p.n (upd X.f k { X.f k with pins := (X.f k).pins - 1 }) = emB p.n X.f := by
    rw [emB_upd hk]
    exact updB_id (emB_at hk)
  have hI : Inv p.n (upd X.f k { X.f k with pins := (X.f k).pins - 1 }) X.D := H.2.1.keep hk rfl hid0 (H.2.1.vf k hk)
  have e3 : idB p.n (upd X.f k { X.f k with pins := (X.f k).pins - 1 }) = idB p.n X.f := by
    rw [idB_upd hk]
    refine updB_id ?_
    rw [idB_at hk]
    have q1 : ¬ (X.f k).pins = 0 := by omega
    have q2 : ¬ (X.f k).pins - 1 = 0 := by omega
    simp [q1, q2]
  have hE : ok (m + 1) X.A (pgO (upd X.f k { X.f k with pins := (X.f k).pins - 1 })) (evO (upd X.f k { X.f k with pins := (X.f k).pins - 1 })) := by
    refine S.same (S.more H.2.2 (Nat.le_succ m)) (fun i hi => ?_) (fun i hi _ => ?_)
    · rw [pgO_upd]
      by_cases e : i = k
      · rw [e, upd_same]; rfl
      · rw [upd_other _ _ e]
    · rw [evO_upd]
      by_cases e : i = k
      · have q1 : ¬ (X.f k).pins = 0 := by omega
        have q2 : ¬ (X.f k).pins - 1 = 0 := by omega
        rw [e, upd_same]; unfold evO; simp [q1, q2]
      · rw [upd_other _ _ e]
  have KF : Hid (∀ w3 F3, PI RR p { CT p.n X with f := upd X.f k { X.f k with pins := (X.f k).pins - 1 } } m w3 F3 → PW RR ok p { X with f := upd X.f k { X.f k with pins := (X.f k).pins - 1 } } (m + 4) w3 F3) := fun w3 F3 h' => by
    dsimp only [CT] at h'
    have hw : PW RR ok p { X with f := upd X.f k { X.f k with pins := (X.f k).pins - 1 } } (m + 1) w3 F3 := ⟨by
      unfold CT
      dsimp only
      rw [e1, e2, e3]
      exact h'.more (by omega), hI, hE⟩
    exact hw.more S (by omega)
  have hpm : (X.f k).pins < 900000 := by have q : (X.f k).pins ≤ m := hbf.2.2; omega
  have e2' : (w.alloc (.cells #[.int .i64 k] 3)).cell? ⟨p.fb, k * 4 + 2, none⟩ = some (.int .i64 (X.f k).pins) := (H1.me.cf hk).2.2.1
  have hcp : (((((X.f k).pins - 1 : Nat) : Int)) == 0) = false := by
    have : ¬ (X.f k).pins - 1 = 0 := by omega
    simp <;> omega
  have hp1 : 1 ≤ (X.f k).pins := by omega
  generalize hxp : (X.f k).pins = xp at *
  have B4 := Lib.hid b4
  have HP := Lib.hid hpm
  generalize hw2 : (w.alloc (.cells #[.int .i64 k] 3)) = w2 at *
  unfold PP.ptr at *
  clear H H1 S hlt b4 hu hbf hpl hid h1 hid0 e0 e1 e2 e3 hI hE hxp hp 
  go_enter Tryz.func37, Tryz.ntmps37
  go_wp2_with fail
  refine HA.out.mono ?_
  rintro e w1 ⟨rfl, rfl⟩
  have hcw : IntKind.i64.wrap ((xp : Int) - 1) = (xp : Int) - 1 := IntWalk.i64_in _ (by omega)
  go_wp2_with fail
  try rw [hw2]
  clear hw2
  go_region
  all_goals
    obtain ⟨hA, gA⟩ := KP.out ((xp : Int) - 1) (by omega)
    generalize (w2.setCell ⟨p.fb, k * 4 + 2, none⟩ (.int .i64 ((xp : Int) - 1))).drew = wA at hA gA ⊢
    obtain ⟨y1, y2, y3, y4⟩ := KX.out wA F hA
    have y6 : wA.cell? ⟨w.heap.size, 0, none⟩ = some (.int .i64 k) := by rw [gA.cell (p := ⟨w.heap.size, 0, none⟩) (by show w.heap.size < _; omega) hnF1]; exact b1
    have y7 := gA.size
    have H3 := Lib.hid hA
    have G3 := Lib.hid gA
    clear hA gA KP c2 e2' z2 lb lf e3
    go_wp2_with fail
    go_region
    all_goals
      go_wp2
      go_returns
      exact ⟨rfl, Led.trans (R := fun _ _ => True) (B4.out.mono (fun _ q => q.elim)) (fun i q => .inl q) (Led.trans (R := fun _ _ => True) G3.out (fun i q => .inl q) (Led.trans (R := fun _ _ => True) ((Fr.refl F wA).drew) (fun i q => .inl q) (Led.refl (KF.out _ _ (HS.out _ _ H3.out)))))⟩
theorem un_calls (H : PW RR ok p X m w F) (hm : m < 60000) {id : Nat} (hu : id < 4294967296) : Calls Tryz.prog 37 #[p.ptr, .int .u32 id] w fun e w' => e = .returned (.int .i64 (X.unpin P p.n id).1) ∧ Led (PW RR ok p (X.unpin P p.n id).2 (m + 10)) F w w' := by
  unfold PS.unpin
  rcases held_case H.2.1 id with ⟨h0, h1, h2, h3, h4, h5, h6, h7⟩ | ⟨h0, h1⟩
  · rw [if_pos h0]
    generalize (X.held p.n id).1 = k at *
    by_cases hp : (X.f k).pins = 1
    · rw [if_pos hp]
      refine (un_last S H hm hu h1 h2 h4 h5 hp).mono ?_
      rintro e w' ⟨he, hl⟩
      exact ⟨he, hl.mono (fun F' h => h.more S (by omega))⟩
    · rw [if_neg hp]
      refine (un_more S H hm hu h1 h2 h4 h5 (by omega)).mono ?_
      rintro e w' ⟨he, hl⟩
      exact ⟨he, hl.mono (fun F' h => h.more S (by omega))⟩
  · rw [if_neg h0]
    refine (un_no S H hu h0 h1).mono ?_
    rintro e w' ⟨he, g⟩
    exact ⟨he, F, (H.fr0 S g).more S (by omega), g.mono (fun _ q => q.elim), fun i q => .inl q⟩
end
end Go.Proofs.YtmpjnphnljakiaaGreatDoor
namespace Go.Proofs.YtmpjnphnljakiaaGreatDoor
open Go.RowKit Go.Maps
set_option linter.unusedVariables false
set_option linter.unusedSimpArgs false
set_option linter.unusedSectionVars false
set_option maxRecDepth 100000
section
variable {τ : Type} {P : Adv τ} {RR : World → τ → (Nat → Prop) → Prop} {ok : Nat → τ → (Nat → Nat) → (Nat → Bool) → Prop} {p : PP} {w w' : World} {m : Nat} {F : Nat → Prop} {X : PS τ} {T : PT τ}
theorem hs_calls (H : PW RR ok p X m w F) {id : Nat} (hu : id < 4294967296) : Calls Tryz.prog 31 #[p.ptr, .int .u32 id] w fun e w' => e = .returned (.bool (X.D.has id)) ∧ w = w' := by
  cases hh : X.D.has id with
  | false =>
    have HA := Lib.hid (find_none H.1.me hu (plO_none hh))
    unfold PP.ptr at *
    clear H hh hu
    go_enter Tryz.func31, Tryz.ntmps31
    go_wp2_with fail
    refine HA.out.mono ?_
    rintro e w1 ⟨rfl, rfl⟩
    go_wp2
    go_returns
    exact ⟨rfl, rfl⟩
  | true =>
    have hs : ∃ x, plO p.n X.f X.D id = some x := by unfold plO; rw [if_pos hh]; exact ⟨_, rfl⟩
    obtain ⟨x, hx⟩ := hs
    have HA := Lib.hid (find_some H.1.me hu hx)
    unfold PP.ptr at *
    clear H hh hu hx
    go_enter Tryz.func31, Tryz.ntmps31
    go_wp2_with fail
    refine HA.out.mono ?_
    rintro e w1 ⟨rfl, rfl⟩
    go_wp2
    go_returns
    exact ⟨rfl, rfl⟩
theorem rd_calls (H : PW RR ok p X m w F) {id : Nat} (hu : id < 4294967296) : Calls Tryz.prog 38 #[p.ptr, .int .u32 id] w fun e w' => e = .returned (.tuple #[.int .u64 (X.read p.n id).1, .int .i64 (X.read p.n id).2]) ∧ w = w' := by
  unfold PS.read
  rcases held_case H.2.1 id with ⟨h0, h1, h2, h3, h4, h5, h6, h7⟩ | ⟨h0, h1⟩
  · rw [if_pos h0]
    generalize (X.held p.n id).1 = k at *
    have HA := Lib.hid (held_yes H.1.me hu h1 h2 h3)
    obtain ⟨_, c, _, _⟩ := H.1.me.cf h1
    rw [show (CT p.n X).f = X.f from rfl] at c
    have c2 : w.cell? ⟨p.pb, 2, none⟩ = some (.slice (some ⟨p.fb, 0, none⟩) p.n p.n) := H.1.me.ce 2 (by omega)
    have hn := H.1.me.hn
    have lb := H.1.me.hd.lt
    have lf := H.1.me.fr.lt
    generalize (X.f k).val = q at *
    unfold PP.ptr at *
    clear H hu h0 h2 h3 h4 h5 h6 h7
    go_enter Tryz.func38, Tryz.ntmps38
    go_wp2_with fail
    refine HA.out.mono ?_
    rintro e w1 ⟨rfl, rfl⟩
    go_wp2
    go_returns
    exact ⟨rfl, rfl⟩
  · rw [if_neg h0]
    have HA := Lib.hid (held_no H.1.me hu h1)
    have hne : ((((X.held p.n id).2 : Nat) : Int) == 0) = false := by simp <;> exact h0
    generalize (X.held p.n id).2 = e0 at *
    unfold PP.ptr at *
    clear H hu h0 h1
    go_enter Tryz.func38, Tryz.ntmps38
    go_wp2_with fail
    refine HA.out.mono ?_
    rintro e w1 ⟨rfl, rfl⟩
    go_wp2
    go_returns
    exact ⟨rfl, rfl⟩
/-! One that isn't there. -/
theorem nil_Fetch {id : Nat} : Calls Tryz.prog 36 #[.pointer none, .int .u32 id] w fun e w' => e = .returned (.int .i64 1) ∧ w = w' := by
  have HC := Lib.hid (find_nil (w := w) (id := id))
  go_enter Tryz.func36, Tryz.ntmps36
  go_wp2_with fail
  refine HC.out.mono ?_
  rintro e w1 ⟨rfl, rfl⟩
  go_wp2
  go_returns
  exact ⟨rfl, rfl⟩
theorem nil_Unpin {id : Nat} : Calls Tryz.prog 37 #[.pointer none, .int .u32 id] w fun e w' => e = .returned (.int .i64 1) ∧ Fr NoF w w' := by
  have HC := Lib.hid (held_nil (w := w) (id := id))
  go_enter Tryz.func37, Tryz.ntmps37
  go_wp2_with fail
  refine HC.out.mono ?_
  rintro e w1 ⟨rfl, rfl⟩
  go_wp2
  go_returns
  exact ⟨rfl, (Fr.refl NoF w).alloc _⟩
theorem nil_Read {id : Nat} : Calls Tryz.prog 38 #[.pointer none, .int .u32 id] w fun e w' => e = .returned (.tuple #[.int .u64 0, .int .i64 1]) ∧ w = w' := by
  have HC := Lib.hid (held_nil (w := w) (id := id))
  go_enter Tryz.func38, Tryz.ntmps38
  go_wp2_with fail
  refine HC.out.mono ?_
  rintro e w1 ⟨rfl, rfl⟩
  go_wp2
  go_returns
  exact ⟨rfl, rfl⟩
theorem nil_Write {id v : Nat} : Calls Tryz.prog 39 #[.pointer none, .int .u32 id, .int .u64 v] w fun e w' => e = .returned (.int .i64 1) ∧ w = w' := by
  have HC := Lib.hid (held_nil (w := w) (id := id))
  go_enter Tryz.func39, Tryz.ntmps39
  go_wp2_with fail
  refine HC.out.mono ?_
  rintro e w1 ⟨rfl, rfl⟩
  go_wp2
  go_returns
  exact ⟨rfl, rfl⟩
theorem nil_Flush {id : Nat} : Calls Tryz.prog 40 #[.pointer none, .int .u32 id] w fun e w' => e = .returned (.int .i64 1) ∧ w = w' := by
  have HC := Lib.hid (find_nil (w := w) (id := id))
  go_enter Tryz.func40, Tryz.ntmps40
  go_wp2_with fail
  refine HC.out.mono ?_
  rintro e w1 ⟨rfl, rfl⟩
  go_wp2
  go_returns
  exact ⟨rfl, rfl⟩
theorem nil_Delete {id : Nat} : Calls Tryz.prog 42 #[.pointer none, .int .u32 id] w fun e w' => e = .returned (.int .i64 1) ∧ w = w' := by
  have HC := Lib.hid (find_nil (w := w) (id := id))
  go_enter Tryz.func42, Tryz.ntmps42
  go_wp2_with fail
  refine HC.out.mono ?_
  rintro e w1 ⟨rfl, rfl⟩
  go_wp2
  go_returns
  exact ⟨rfl, rfl⟩
theorem nil_Has {id : Nat} : Calls Tryz.prog 31 #[.pointer none, .int .u32 id] w fun e w' => e = .returned (.bool false) ∧ w = w' := by
  have HC := Lib.hid (find_nil (w := w) (id := id))
  go_enter Tryz.func31, Tryz.ntmps31
  go_wp2_with fail
  refine HC.out.mono ?_
  rintro e w1 ⟨rfl, rfl⟩
  go_wp2
  go_returns
  exact ⟨rfl, rfl⟩
theorem nil_FlushAll : Calls Tryz.prog 41 #[.pointer none] w fun e w' => e = .returned (.int .i64 1) ∧ w = w' := by
  go_enter Tryz.func41, Tryz.ntmps41
  go_wp2
  go_returns
  exact ⟨rfl, rfl⟩
theorem nil_NewPage : Calls Tryz.prog 35 #[.pointer none] w fun e w' => e = .returned (.tuple #[.int .u32 0, .int .i64 1]) ∧ w = w' := by
  go_enter Tryz.func35, Tryz.ntmps35
  go_wp2
  go_returns
  exact ⟨rfl, rfl⟩
end
end Go.Proofs.YtmpjnphnljakiaaGreatDoor
namespace Go.Proofs.YtmpjnphnljakiaaGreatDoor
open Go.RowKit Go.Maps
set_option linter.unusedVariables false
set_option linter.unusedSimpArgs false
set_option linter.unusedSectionVars false
set_option maxRecDepth 100000
section
variable {τ : Type} {P : Adv τ} {RR : World → τ → (Nat → Prop) → Prop} {ok : Nat → τ → (Nat → Nat) → (Nat → Bool) → Prop} {p : PP} (S : RepSys P RR p.pb p.rv p.n ok) {w w' : World} {m : Nat} {F : Nat → Prop} {X : PS τ} {T : PT τ}
include S
set_option maxHeartbeats 2000000 in
theorem wr_yes (H : PW RR ok p X m w F) {id k v : Nat} (hu : id < 4294967296) (hv : v < 18446744073709551616) (hk : k < p.n) (hpl : plO p.n X.f X.D id = some (k : Int)) (hid : (X.f k).id = id) (h1 : 1 ≤ id) (hp : ¬ (X.f k).pins = 0) : Calls Tryz.prog 39 #[p.ptr, .int .u32 id, .int .u64 v] w fun e w' => e = .returned (.int .i64 0) ∧
    Led (PW RR ok p { X with f := upd X.f k { X.f k with val := v, dirty := true } } (m + 1)) F w w' := by
  have HA := Lib.hid (held_yes H.1.me hu hk hpl (by show ¬ (X.f k).pins = 0; omega))
  have lb := H.1.me.hd.lt
  have lf := H.1.me.fr.lt
  have c2 : w.cell? ⟨p.pb, 2, none⟩ = some (.slice (some ⟨p.fb, 0, none⟩) p.n p.n) := H.1.me.ce 2 (by omega)
  have hn := H.1.me.hn
  obtain ⟨e0, e1, e2, e3⟩ := H.1.me.cf hk
  have z1 := H.1.me.fr.frozen (k * 4 + 1)
  have z3 := H.1.me.fr.frozen (k * 4 + 3)
  have hbf := H.1.me.bd.2 k
  have hid0 : ¬ (X.f k).id = 0 := by omega
  have K1 : MP ((w.setCell ⟨p.fb, k * 4 + 1, none⟩ (.int .u64 v)).setCell ⟨p.fb, k * 4 + 3, none⟩ (.bool true)) p (upd X.f k { X.f k with val := v, dirty := true }) (CT p.n X).pl (CT p.n X).E (CT p.n X).I X.sc m ∧ Fr p.own w ((w.setCell ⟨p.fb, k * 4 + 1, none⟩ (.int .u64 v)).setCell ⟨p.fb, k * 4 + 3, none⟩ (.bool true)) := by
    obtain ⟨q1, q2⟩ := H.1.me.put1 (m' := m) (j := 1) hk { X.f k with val := v } (.int .u64 v) (frV_setv X.f k v) (Nat.le_refl _) ⟨hbf.1, hv, hbf.2.2⟩
    have he : upd (frV (upd X.f k { X.f k with val := v })) (k * 4 + 3) (.bool true) = frV (upd (upd X.f k { X.f k with val := v }) k { X.f k with val := v, dirty := true }) := by
      have := frV_setd (upd X.f k { X.f k with val := v }) k true
      rw [upd_same] at this
      exact this
    obtain ⟨q3, q4⟩ := q1.put1 (m' := m) (j := 3) hk { X.f k with val := v, dirty := true } (.bool true) he (Nat.le_refl _) ⟨hbf.1, hv, hbf.2.2⟩
    rw [upd_upd] at q3
    exact ⟨q3, (q2.trans q4 (fun i q => .inl q)).mono (fun i q => .inr (.inl q))⟩
  have K2 : MP ((w.setCell ⟨p.fb, k * 4 + 3, none⟩ (.bool true)).setCell ⟨p.fb, k * 4 + 1, none⟩ (.int .u64 v)) p (upd X.f k { X.f k with val := v, dirty := true }) (CT p.n X).pl (CT p.n X).E (CT p.n X).I X.sc m ∧ Fr p.own w ((w.setCell ⟨p.fb, k * 4 + 3, none⟩ (.bool true)).setCell ⟨p.fb, k * 4 + 1, none⟩ (.int .u64 v)) := by
    obtain ⟨q1, q2⟩ := H.1.me.put1 (m' := m) (j := 3) hk { X.f k with dirty := true } (.bool true) (frV_setd X.f k true) (Nat.le_refl _) ⟨hbf.1, hbf.2.1, hbf.2.2⟩
    have he : upd (frV (upd X.f k { X.f k with dirty := true })) (k * 4 + 1) (.int .u64 (v : Nat)) = frV (upd (upd X.f k { X.f k with dirty := true }) k { X.f k with val := v, dirty := true }) := by
      have := frV_setv (upd X.f k { X.f k with dirty := true }) k v
      rw [upd_same] at this
      exact this
    obtain ⟨q3, q4⟩ := q1.put1 (m' := m) (j := 1) hk { X.f k with val := v, dirty := true } (.int .u64 v) he (Nat.le_refl _) ⟨hbf.1, hv, hbf.2.2⟩
    rw [upd_upd] at q3
    exact ⟨q3, (q2.trans q4 (fun i q => .inl q)).mono (fun i q => .inr (.inl q))⟩
  have KP : Hid (∀ wf, (wf = ((w.setCell ⟨p.fb, k * 4 + 1, none⟩ (.int .u64 v)).setCell ⟨p.fb, k * 4 + 3, none⟩ (.bool true)).drew ∨ wf = ((w.setCell ⟨p.fb, k * 4 + 3, none⟩ (.bool true)).setCell ⟨p.fb, k * 4 + 1, none⟩ (.int .u64 v)).drew) → Led (PW RR ok p { X with f := upd X.f k { X.f k with val := v, dirty := true } } (m + 1)) F w wf) := fun wf hw => by
    rcases hw with rfl | rfl
    · exact cell_pw S H hk hid0 rfl rfl hv ((K1.1.more (Nat.le_succ m)).fr0 ((Fr.refl NoF _).drew)) K1.2.drew
    · exact cell_pw S H hk hid0 rfl rfl hv ((K2.1.more (Nat.le_succ m)).fr0 ((Fr.refl NoF _).drew)) K2.2.drew
  rw [show (CT p.n X).f = X.f from rfl] at e0 e1 e2 e3
  generalize (X.f k).val = xv at *
  generalize (X.f k).dirty = xd at *
  unfold PP.ptr at *
  clear H S hu hpl hid h1 hp hbf hid0 K1 K2 hv e0 e2
  go_enter Tryz.func39, Tryz.ntmps39
  go_wp2_with fail
  refine HA.out.mono ?_
  rintro e w1 ⟨rfl, rfl⟩
  go_wp2_with fail
  go_region
  all_goals
    go_wp2
    go_returns
    exact ⟨rfl, KP.out _ (by first | exact .inl rfl | exact .inr rfl)⟩
theorem wr_no (H : PW RR ok p X m w F) {id e0 v : Nat} (hu : id < 4294967296) (h0 : ¬ e0 = 0) (hh : HeldNo p.n X.f (plO p.n X.f X.D) id e0) : Calls Tryz.prog 39 #[p.ptr, .int .u32 id, .int .u64 v] w fun e w' => e = .returned (.int .i64 e0) ∧ w = w' := by
  have HA := Lib.hid (held_no H.1.me hu hh)
  have hne : (((e0 : Nat) : Int) == 0) = false := by simp <;> exact h0
  unfold PP.ptr at *
  clear H S hh hu
  go_enter Tryz.func39, Tryz.ntmps39
  go_wp2_with fail
  refine HA.out.mono ?_
  rintro e w1 ⟨rfl, rfl⟩
  go_wp2
  go_returns
  exact ⟨rfl, rfl⟩
theorem wr_calls (H : PW RR ok p X m w F) {id v : Nat} (hu : id < 4294967296) (hv : v < 18446744073709551616) : Calls Tryz.prog 39 #[p.ptr, .int .u32 id, .int .u64 v] w fun e w' => e = .returned (.int .i64 (X.write p.n id v).1) ∧ Led (PW RR ok p (X.write p.n id v).2 (m + 10)) F w w' := by
  unfold PS.write
  rcases held_case H.2.1 id with ⟨h0, h1, h2, h3, h4, h5, h6, h7⟩ | ⟨h0, h1⟩
  · rw [if_pos h0]
    refine (wr_yes S H hu hv h1 h2 h4 h5 h3).mono ?_
    rintro e w' ⟨he, hl⟩
    exact ⟨he, hl.mono (fun F' h => h.more S (by omega))⟩
  · rw [if_neg h0]
    refine (wr_no S H hu h0 h1).mono ?_
    rintro e w' ⟨he, rfl⟩
    exact ⟨he, Led.refl (H.more S (by omega))⟩
/-- clean, of a whole pool. -/
theorem clean_pw (H : PW RR ok p X m w F) (hm : m < 70000) {k : Nat} (hk : k < p.n) (h0 : (X.f k).dirty = true → ¬ (X.f k).id = 0) : Calls Tryz.prog 57 #[p.ptr, .int .i64 k] w fun e w' => e = .returned (.int .i64 (X.clean k).1) ∧ Led (PW RR ok p (X.clean k).2 (m + 1)) F w w' := by
  unfold PS.clean
  by_cases hd : (X.f k).dirty = true
  · rw [if_pos hd]
    have hid0 := h0 hd
    by_cases he : (X.D.write (X.f k).id (X.f k).val).1 = 0
    · rw [if_pos he]
      refine (pi_clean_ok S H.1 (by omega) hk hd he).mono ?_
      rintro e w' ⟨he', hl⟩
      refine ⟨he', hl.mono (fun F' h' => ?_)⟩
      dsimp only [CT] at h'
      have hw : PW RR ok p { X with f := upd X.f k { X.f k with dirty := false }, D := (X.D.write (X.f k).id (X.f k).val).2 } (m + 1) w' F' := ⟨by
        unfold CT
        dsimp only
        rw [plO_D (fun x => RS.write_has _ _ _ x), plO_same (x := { X.f k with dirty := false }) hk rfl, emB_upd hk, idB_upd hk, updB_id (emB_at hk), updB_id (idB_at hk)]
        exact h', (H.2.1.keep (x := { X.f k with dirty := false }) hk rfl hid0 (H.2.1.vf k hk)).write _ (H.2.1.vf k hk), by
        show ok (m + 1) X.A (pgO (upd X.f k { X.f k with dirty := false })) (evO (upd X.f k { X.f k with dirty := false }))
        rw [pgO_upd, evO_upd]
        refine S.same (S.more H.2.2 (Nat.le_succ m)) (fun i hi => ?_) (fun i hi q => ?_)
        · by_cases e : i = k
          · rw [e, upd_same]; rfl
          · rw [upd_other _ _ e]
        · by_cases e : i = k
          · rw [e, upd_same]; rfl
          · rw [upd_other _ _ e]⟩
      exact hw
    · rw [if_neg he]
      refine (pi_clean_err S H.1 (by omega) hk hd he).mono ?_
      rintro e w' ⟨he', hl⟩
      refine ⟨he', hl.mono (fun F' h' => ?_)⟩
      dsimp only [CT] at h'
      have hw : PW RR ok p { X with D := (X.D.write (X.f k).id (X.f k).val).2 } (m + 1) w' F' := ⟨by
        unfold CT
        dsimp only
        rw [plO_D (fun x => RS.write_has _ _ _ x)]
        exact h', H.2.1.write _ (H.2.1.vf k hk), S.more H.2.2 (Nat.le_succ m)⟩
      exact hw
  · rw [if_neg hd]
    refine (pi_clean_no S H.1 hk (Bool.eq_false_iff.2 hd)).mono ?_
    rintro e w' ⟨he', hl⟩
    exact ⟨he', hl.mono (fun F' h' => PW.more S (⟨h', H.2⟩ : PW RR ok p X m w' F') (by omega))⟩
set_option maxHeartbeats 1000000 in
theorem fl_calls (H : PW RR ok p X m w F) (hm : m < 60000) {id : Nat} (hu : id < 4294967296) : Calls Tryz.prog 40 #[p.ptr, .int .u32 id] w fun e w' => e = .returned (.int .i64 (X.flush p.n id).1) ∧ Led (PW RR ok p (X.flush p.n id).2 (m + 10)) F w w' := by
  unfold PS.flush
  by_cases hh : X.D.has id = true
  · rw [if_pos hh]
    cases hk : frm p.n X.f id with
    | none =>
      dsimp only
      have HA := Lib.hid (find_some H.1.me hu (plO_out hh hk))
      have HL := Lib.hid (Led.refl (H.more S (show m ≤ m + 10 by omega)))
      unfold PP.ptr at *
      clear H S hu hh hk
      go_enter Tryz.func40, Tryz.ntmps40
      go_wp2_with fail
      refine HA.out.mono ?_
      rintro e w1 ⟨rfl, rfl⟩
      go_wp2
      go_returns
      exact ⟨rfl, HL.out⟩
    | some k =>
      dsimp only
      obtain ⟨h1, h2, h3⟩ := H.2.1.fpos hh hk
      have HA := Lib.hid (find_some H.1.me hu (plO_some hh hk))
      have HC := Lib.hid ((clean_pw S H (by omega) h1 (fun _ => by omega)).mono (fun e w' ⟨he, hl⟩ => (⟨he, hl.mono (fun F' h => h.more S (by omega))⟩ : e = Ending.returned (.int .i64 (X.clean k).1) ∧ Led (PW RR ok p (X.clean k).2 (m + 10)) F w w')))
      have hne : ((k : Int) == (-1)) = false := by simp <;> omega
      generalize X.clean k = R at *
      unfold PP.ptr at *
      clear H S hu hh hk h2
      go_enter Tryz.func40, Tryz.ntmps40
      go_wp2_with fail
      refine HA.out.mono ?_
      rintro e w1 ⟨rfl, rfl⟩
      go_wp2_with fail
      refine HC.out.mono ?_
      rintro e w1 ⟨rfl, hl⟩
      have HL := Lib.hid hl
      clear hl
      go_wp2
      go_returns
      exact ⟨rfl, HL.out⟩
  · rw [if_neg hh]
    have HA := Lib.hid (find_none H.1.me hu (plO_none (by simpa using hh)))
    have HL := Lib.hid (Led.refl (H.more S (show m ≤ m + 10 by omega)))
    unfold PP.ptr at *
    clear H S hu hh
    go_enter Tryz.func40, Tryz.ntmps40
    go_wp2_with fail
    refine HA.out.mono ?_
    rintro e w1 ⟨rfl, rfl⟩
    go_wp2
    go_returns
    exact ⟨rfl, HL.out⟩
end
end Go.Proofs.YtmpjnphnljakiaaGreatDoor
namespace Go.Proofs.YtmpjnphnljakiaaGreatDoor
open Go.RowKit Go.Maps
set_option linter.unusedVariables false
set_option linter.unusedSimpArgs false
set_option linter.unusedSectionVars false
set_option maxRecDepth 100000
section
variable {τ : Type} {P : Adv τ} {RR : World → τ → (Nat → Prop) → Prop} {ok : Nat → τ → (Nat → Nat) → (Nat → Bool) → Prop} {p : PP} (S : RepSys P RR p.pb p.rv p.n ok) {w w' : World} {m : Nat} {F : Nat → Prop} {X : PS τ} {T : PT τ}
theorem plO_free {n : Nat} {f : Nat → FrS} {D : RS} {id : Nat} (hI : ∃ s, DRel s D) (hh : D.has id = true) : plO n f (D.free id).2 = updO (plO n f D) id none := by
  obtain ⟨s, hs⟩ := hI
  funext y
  by_cases e : y = id
  · rw [e, updO_same]
    exact plO_none (by rw [hs.free_has hh]; simp)
  · rw [updO_other _ _ e]
    unfold plO
    rw [hs.free_has hh, decide_eq_true e, Bool.true_and]
include S
/-- What Delete does last. -/
theorem del_last (H : PW RR ok p X m w F) {id : Nat} (hu : id < 4294967296) (hh : X.D.has id = true) (hno : ∀ i, i < p.n → ¬ (X.f i).id = id) (ty : TypeId) : ∃ w1, (Builtin.delete_ #[54, 44] ty #[.map (some p.mb), .int .u32 (id : Nat)]).run Tryz.prog w = .ok (.tuple #[]) w1 ∧ Led (PI RR p { CT p.n X with pl := updO (plO p.n X.f X.D) id none } m) F w w1 ∧
    (∀ w2 F2, PI RR p { CT p.n X with pl := updO (plO p.n X.f X.D) id none } m w2 F2 → Calls Tryz.prog 49 #[.pointer (some ⟨p.db, 0, none⟩), .int .u32 id] w2 fun e w' => e = .returned (.int .i64 0) ∧ Led (PW RR ok p { X with D := (X.D.free id).2 } m) F2 w2 w') := by
  obtain ⟨w1, r1, h1, g1⟩ := H.1.me.del hu ty
  refine ⟨w1, r1, H.1.set h1 (g1.mono (fun i q => .inr (.inr (.inl q)))) (Nat.le_refl _) S, fun w2 F2 h2 => ?_⟩
  refine (h2.free S hu).mono ?_
  rintro e w' ⟨he, hl⟩
  obtain ⟨s, hs⟩ := H.2.1.dr
  have e0 : (X.D.free id).1 = 0 := (hs.free_yes (by rw [← hs.hasE]; exact hh)).1
  refine ⟨by rw [he]; show Ending.returned (.int .i64 ((X.D.free id).1 : Nat)) = _; rw [e0]; rfl, hl.mono (fun F' h' => ?_)⟩
  dsimp only [CT] at h'
  have hw : PW RR ok p { X with D := (X.D.free id).2 } m w' F' := ⟨by
    unfold CT
    dsimp only
    rw [plO_free H.2.1.dr hh]
    exact h', H.2.1.free hno, H.2.2⟩
  exact hw
set_option maxHeartbeats 2000000 in
theorem de_in (H : PW RR ok p X m w F) (hm : m < 60000) {id k : Nat} (hu : id < 4294967296) (hh : X.D.has id = true) (hk : frm p.n X.f id = some k) (hp : (X.f k).pins = 0) : Calls Tryz.prog 42 #[p.ptr, .int .u32 id] w fun e w' => e = .returned (.int .i64 0) ∧ Led (PW RR ok p { X with f := upd X.f k zF, D := (X.D.free id).2, A := P.remove X.A k } (m + 1)) F w w' := by
  obtain ⟨h1, h2, h3⟩ := H.2.1.fpos hh hk
  have HA := Lib.hid (find_some H.1.me hu (plO_some hh hk))
  have HR := Lib.hid (remove_pw S H (by omega) h1 (by omega))
  have hno : ∀ i, i < p.n → ¬ (upd X.f k zF i).id = id := fun i hi q => by
    by_cases e : i = k
    · rw [e, upd_same] at q; exact absurd q (by show ¬ 0 = id; omega)
    · rw [upd_other _ _ e] at q; exact e (H.2.1.inj i k hi h1 (by omega) (by rw [q, h2]))
  have KD : Hid (∀ (ty : TypeId) w1 F1, PW RR ok p { X with f := upd X.f k zF, A := P.remove X.A k } (m + 1) w1 F1 → _) := fun ty w1 F1 h => del_last S (w := w1) (F := F1) h hu hh hno ty
  have KC : Hid (∀ w1 F1, PW RR ok p { X with f := upd X.f k zF, A := P.remove X.A k } (m + 1) w1 F1 → p.pb < w1.heap.size ∧ w1.cell? ⟨p.pb, 3, none⟩ = some (.map (some p.mb))) := fun w1 F1 h => ⟨h.1.me.hd.lt, h.1.me.ce 3 (by omega)⟩
  have KC0 : Hid (∀ w1 F1 T j, PI RR p T j w1 F1 → w1.cell? ⟨p.pb, 0, none⟩ = some (.pointer (some ⟨p.db, 0, none⟩)) ∧ p.pb < w1.heap.size) := fun w1 F1 T j h => h.c0
  have c2 : w.cell? ⟨p.pb, 2, none⟩ = some (.slice (some ⟨p.fb, 0, none⟩) p.n p.n) := H.1.me.ce 2 (by omega)
  have hn := H.1.me.hn
  have lb := H.1.me.hd.lt
  have lf := H.1.me.fr.lt
  obtain ⟨_, _, cp, _⟩ := H.1.me.cf h1
  rw [show (CT p.n X).f = X.f from rfl, hp] at cp
  have hne : ((k : Int) == (-1)) = false := by simp <;> omega
  unfold PP.ptr at *
  clear H S hh hk h2 hp hno h3
  have HU := Lib.hid hu
  clear hu
  go_enter Tryz.func42, Tryz.ntmps42
  go_wp2_with fail
  refine HA.out.mono ?_
  rintro e w1 ⟨rfl, rfl⟩
  go_wp2_with fail
  refine HR.out.mono ?_
  rintro e w1 ⟨rfl, F1, g1, f1, k1⟩
  obtain ⟨x1, x2⟩ := KC.out w1 F1 g1
  obtain ⟨w2, r2, ⟨F2, g2, f2, k2⟩, hfree⟩ := KD.out 0 w1 F1 g1
  obtain ⟨x3, x4⟩ := KC0.out w2 F2 _ _ g2
  have HFR := Lib.hid (hfree w2 F2 g2)
  have FF1 := Lib.hid f1
  have KK1 := Lib.hid k1
  have FF2 := Lib.hid f2
  have KK2 := Lib.hid k2
  clear g1 f1 k1 g2 f2 k2 hfree KD KC KC0 HR
  go_wp2_with fail
  refine HFR.out.mono ?_
  rintro e w3 ⟨rfl, hl⟩
  have HL := Lib.hid hl
  clear hl
  go_wp2
  go_returns
  exact ⟨rfl, Led.trans (R := fun _ _ => True) FF1.out KK1.out (Led.trans (R := fun _ _ => True) FF2.out KK2.out HL.out)⟩
set_option maxHeartbeats 2000000 in
theorem de_out (H : PW RR ok p X m w F) {id : Nat} (hu : id < 4294967296) (hh : X.D.has id = true) (hk : frm p.n X.f id = none) : Calls Tryz.prog 42 #[p.ptr, .int .u32 id] w fun e w' => e = .returned (.int .i64 0) ∧ Led (PW RR ok p { X with D := (X.D.free id).2 } m) F w w' := by
  have HA := Lib.hid (find_some H.1.me hu (plO_out hh hk))
  have c3 : w.cell? ⟨p.pb, 3, none⟩ = some (.map (some p.mb)) := H.1.me.ce 3 (by omega)
  have lb := H.1.me.hd.lt
  obtain ⟨w2, r2, ⟨F2, g2, f2, k2⟩, hfree⟩ := del_last S H hu hh (frm_none hk) 0
  obtain ⟨x3, x4⟩ := g2.c0
  have HFR := Lib.hid (hfree w2 F2 g2)
  have FF2 := Lib.hid f2
  have KK2 := Lib.hid k2
  unfold PP.ptr at *
  clear H S hh hk g2 f2 k2 hfree
  have HU := Lib.hid hu
  clear hu
  go_enter Tryz.func42, Tryz.ntmps42
  go_wp2_with fail
  refine HA.out.mono ?_
  rintro e w1 ⟨rfl, rfl⟩
  go_wp2_with fail
  refine HFR.out.mono ?_
  rintro e w3 ⟨rfl, hl⟩
  have HL := Lib.hid hl
  clear hl
  go_wp2
  go_returns
  exact ⟨rfl, Led.trans (R := fun _ _ => True) FF2.out KK2.out HL.out⟩
theorem de_no (H : PW RR ok p X m w F) {id : Nat} (hu : id < 4294967296) (hh : X.D.has id = false) : Calls Tryz.prog 42 #[p.ptr, .int .u32 id] w fun e w' => e = .returned (.int .i64 3) ∧ w = w' := by
  have HA := Lib.hid (find_none H.1.me hu (plO_none hh))
  unfold PP.ptr at *
  clear H S hh hu
  go_enter Tryz.func42, Tryz.ntmps42
  go_wp2_with fail
  refine HA.out.mono ?_
  rintro e w1 ⟨rfl, rfl⟩
  go_wp2
  go_returns
  exact ⟨rfl, rfl⟩
theorem de_pin (H : PW RR ok p X m w F) {id k : Nat} (hu : id < 4294967296) (hh : X.D.has id = true) (hk : frm p.n X.f id = some k) (hp : ¬ (X.f k).pins = 0) : Calls Tryz.prog 42 #[p.ptr, .int .u32 id] w fun e w' => e = .returned (.int .i64 4) ∧ w = w' := by
  obtain ⟨h1, h2, h3⟩ := H.2.1.fpos hh hk
  have HA := Lib.hid (find_some H.1.me hu (plO_some hh hk))
  have c2 : w.cell? ⟨p.pb, 2, none⟩ = some (.slice (some ⟨p.fb, 0, none⟩) p.n p.n) := H.1.me.ce 2 (by omega)
  have hn := H.1.me.hn
  have lb := H.1.me.hd.lt
  have lf := H.1.me.fr.lt
  obtain ⟨_, _, cp, _⟩ := H.1.me.cf h1
  rw [show (CT p.n X).f = X.f from rfl] at cp
  have hgt : decide (((X.f k).pins : Int) > 0) = true := decide_eq_true (by omega)
  have hgt2 : decide (0 < ((X.f k).pins : Int)) = true := decide_eq_true (by omega)
  have hgt3 : decide (0 < (X.f k).pins) = true := decide_eq_true (by omega)
  have hgt4 : 0 < (X.f k).pins := by omega
  have hgt5 : (0 : Int) < ((X.f k).pins : Int) := by omega
  have hne : ((k : Int) == (-1)) = false := by simp <;> omega
  generalize (X.f k).pins = q at *
  unfold PP.ptr at *
  clear H S hh hu hk h2 hp h3
  go_enter Tryz.func42, Tryz.ntmps42
  go_wp2_with fail
  refine HA.out.mono ?_
  rintro e w1 ⟨rfl, rfl⟩
  go_wp2
  go_returns
  exact ⟨rfl, rfl⟩
theorem de_calls (H : PW RR ok p X m w F) (hm : m < 60000) {id : Nat} (hu : id < 4294967296) : Calls Tryz.prog 42 #[p.ptr, .int .u32 id] w fun e w' => e = .returned (.int .i64 (X.delete P p.n id).1) ∧ Led (PW RR ok p (X.delete P p.n id).2 (m + 10)) F w w' := by
  unfold PS.delete
  by_cases hh : X.D.has id = true
  · rw [if_pos hh]
    cases hk : frm p.n X.f id with
    | none =>
      dsimp only
      exact (de_out S H hu hh hk).mono fun e w' ⟨he, hl⟩ => ⟨he, hl.mono (fun F' h => h.more S (by omega))⟩
    | some k =>
      dsimp only
      by_cases hp : (X.f k).pins = 0
      · rw [if_pos hp]
        exact (de_in S H hm hu hh hk hp).mono fun e w' ⟨he, hl⟩ => ⟨he, hl.mono (fun F' h => h.more S (by omega))⟩
      · rw [if_neg hp]
        refine (de_pin S H hu hh hk hp).mono ?_
        rintro e w' ⟨he, rfl⟩
        exact ⟨he, Led.refl (H.more S (by omega))⟩
  · rw [if_neg hh]
    refine (de_no S H hu (by simpa using hh)).mono ?_
    rintro e w' ⟨he, rfl⟩
    exact ⟨he, Led.refl (H.more S (by omega))⟩
end
end Go.Proofs.YtmpjnphnljakiaaGreatDoor
namespace Go.Proofs.YtmpjnphnljakiaaGreatDoor
open Go.RowKit Go.Maps
set_option linter.unusedVariables false
set_option linter.unusedSimpArgs false
set_option linter.unusedSectionVars false
set_option maxRecDepth 100000
def cmpZ (x y : Int) : Int := if x < y then -1 else if y < x then 1 else 0
theorem nanU (z : Nat) (w : World) : Calls Tryz.prog 88 #[.int .u32 z] w fun e w' => e = .returned (.bool false) ∧ w = w' := by
  go_enter Tryz.func88, Tryz.ntmps88
  go_wp2
  go_returns
  exact ⟨by simp, rfl⟩
theorem cmpU (x y : Nat) (w : World) : Calls Tryz.prog 79 #[.int .u32 x, .int .u32 y] w fun e w' => e = .returned (.int .i64 (cmpZ x y)) ∧ w = w' := by
  unfold cmpZ
  by_cases h1 : (x : Int) < y
  · rw [if_pos h1]
    go_enter Tryz.func79, Tryz.ntmps79
    go_wp2_with (go_at_call 88; refine (nanU _ _).mono ?_; rintro e w' ⟨rfl, rfl⟩)
    go_returns
    exact ⟨rfl, rfl⟩
  · rw [if_neg h1]
    have h1' : (y : Int) ≤ x := by omega
    by_cases h2 : (y : Int) < x
    · rw [if_pos h2]
      go_enter Tryz.func79, Tryz.ntmps79
      go_wp2_with (go_at_call 88; refine (nanU _ _).mono ?_; rintro e w' ⟨rfl, rfl⟩)
      go_returns
      exact ⟨rfl, rfl⟩
    · rw [if_neg h2]
      have h2' : (x : Int) ≤ y := by omega
      go_enter Tryz.func79, Tryz.ntmps79
      go_wp2_with (go_at_call 88; refine (nanU _ _).mono ?_; rintro e w' ⟨rfl, rfl⟩)
      go_returns
      exact ⟨rfl, rfl⟩
/-- The dirty frames among the first k. -/
def dirL (f : Nat → FrS) (k : Nat) : List Nat := (List.range k).filter fun i => (f i).dirty
theorem dirL_next (f : Nat → FrS) (k : Nat) : dirL f (k + 1) = if (f k).dirty = true then dirL f k ++ [k] else dirL f k := by
  unfold dirL
  rw [List.range_succ, List.filter_append]
  cases h : (f k).dirty <;> simp [h]
theorem dirL_le (f : Nat → FrS) (k : Nat) : (dirL f k).length ≤ k := by
  have := List.length_filter_le (fun i => (f i).dirty) (List.range k)
  rwa [List.length_range] at this
theorem dirL_mem {f : Nat → FrS} {k x : Nat} : x ∈ dirL f k ↔ x < k ∧ (f x).dirty = true := by
  unfold dirL; simp
section
variable {w w' : World} {p : PP} {f : Nat → FrS} {pl : Nat → Option Int} {E I : Nat → Bool} {sc m : Nat}
set_option maxHeartbeats 2000000 in
/-- How two dirty frames stand to one another. -/
theorem dcmp_calls (H : MP w p f pl E I sc m) {b x y : Nat} (hx : x < p.n) (hy : y < p.n) (hb : w.cell? ⟨b, 0, none⟩ = some p.ptr) (hbl : b < w.heap.size) : Calls Tryz.prog 78 #[.int .i64 x, .int .i64 y, .pointer (some ⟨b, 0, none⟩)] w fun e w' => e = .returned (.int .i64 (cmpZ (f x).id (f y).id)) ∧ ∃ q, w' = w.drewN q := by
  have c2 : w.cell? ⟨p.pb, 2, none⟩ = some (.slice (some ⟨p.fb, 0, none⟩) p.n p.n) := H.ce 2 (by omega)
  have lb := H.hd.lt
  have lf := H.fr.lt
  have hn := H.hn
  have cx := (H.cf hx).1
  have cy := (H.cf hy).1
  have HC := Lib.hid (fun d => cmpU (f x).id (f y).id (w.drewN d))
  have hxi : (x : Int) < (p.n : Int) := by omega
  have hyi : (y : Int) < (p.n : Int) := by omega
  generalize (f x).id = xi at *
  generalize (f y).id = yi at *
  generalize cmpZ xi yi = r at *
  unfold PP.ptr at hb
  clear H
  go_enter Tryz.func78, Tryz.ntmps78
  go_wp2_with fail
  go_quiet ((go_at_call 79; exact qs (HC.out _)))
  go_wp2
  go_returns
  exact ⟨rfl, _, rfl⟩
/-- What is asked of the sort. -/
def SortsBy (p : PP) (f : Nat → FrS) (bx base : Nat) : Prop := ∀ (W : World) (v : Value) (l : List Nat), OwK .i64 base 3 W v l → bx < base → (∀ x ∈ l, x < p.n) → l.length ≤ 65535 → W.cell? ⟨bx, 0, none⟩ = some p.ptr → bx < W.heap.size → (∃ pl E I sc m, MP W p f pl E I sc m) → (∀ i, p.own i → i < base) → 0 < base →
  Calls Tryz.prog 77 #[v, .func (.func 78) #[] #[.pointer (some ⟨bx, 0, none⟩)]] W fun e w' => e = .returned (.tuple #[]) ∧ ∃ l' : List Nat, l'.Perm l ∧ (∀ i j (hi : i < l'.length) (hj : j < l'.length), i < j → ¬ (f l'[j]).id < (f l'[i]).id) ∧ SlK .i64 w' v l' ∧ Fr (fun i => v.ownBlock = some i) W w'
set_option maxHeartbeats 4000000 in
theorem dirty_calls (H : MP w p f pl E I sc m) (hs : SortsBy p f w.heap.size (w.heap.size + 1)) : Calls Tryz.prog 58 #[p.ptr] w fun e w' => ∃ v l', e = .returned v ∧ l'.Perm (dirL f p.n) ∧ (∀ i j (hi : i < l'.length) (hj : j < l'.length), i < j → ¬ (f l'[j]).id < (f l'[i]).id) ∧ SlK .i64 w' v l' ∧ (∀ i, v.ownBlock = some i → w.heap.size ≤ i) ∧ Fr NoF w w' := by
  obtain ⟨b1, b2, b3⟩ := box1 w p.ptr 27
  have H1 := H.fr0 b3
  have hlt := H.lt
  have htb := Lib.hid H.tab.lt
  have hn := H1.hn
  have KX : Hid (∀ wr, Fr NoF (w.alloc (.cells #[p.ptr] 27)) wr → wr.cell? ⟨w.heap.size, 0, none⟩ = some p.ptr ∧ w.heap.size < wr.heap.size ∧ wr.cell? ⟨p.pb, 2, none⟩ = some (.slice (some ⟨p.fb, 0, none⟩) p.n p.n) ∧ p.pb < wr.heap.size ∧ p.fb < wr.heap.size ∧ MP wr p f pl E I sc m) := fun wr g => by
    have h := H1.fr0 g
    have hz := g.size
    exact ⟨by rw [g.cell (p := ⟨w.heap.size, 0, none⟩) (by show w.heap.size < _; omega) (fun q => q)]; exact b1, by omega, h.ce 2 (by omega), h.hd.lt, h.fr.lt, h⟩
  have KD : Hid (∀ wr k, Fr NoF (w.alloc (.cells #[p.ptr] 27)) wr → k < p.n → wr.cell? ⟨p.fb, k * 4 + 3, none⟩ = some (.bool (f k).dirty)) := fun wr k g hk => ((H1.fr0 g).cf hk).2.2.2
  have HSO := Lib.hid hs
  have HLT := Lib.hid hlt
  have B3 := Lib.hid b3
  have hbs := b2
  generalize hw2 : (w.alloc (.cells #[p.ptr] 27)) = w2 at *
  clear H H1 hs hlt b1 b2 b3
  obtain ⟨x1, x2, x3, x4, x5, _⟩ := KX.out w2 (Fr.refl _ _)
  unfold PP.ptr at x1 hw2
  unfold PP.ptr
  go_enter Tryz.func58, Tryz.ntmps58
  go_wp2_with fail
  try rw [hw2]
  clear hw2
  go_loopw [3, 10] (fun o i wr => ∃ k : Nat, k ≤ p.n ∧ i = .int .i64 k ∧ OwK .i64 (w.heap.size + 1) 3 wr o (dirL f k) ∧ Fr NoF w2 wr) (fun _ i _ => p.n - (intOf i).toNat)
  case atStart => exact ⟨0, Nat.zero_le _, rfl, OwK.nil _ _ _ _, Fr.refl _ _⟩
  case round =>
    obtain ⟨k, hk, rfl, ho, hf⟩ := hrel
    obtain ⟨y1, y2, y3, y4, y5, y6⟩ := KX.out wr hf
    unfold PP.ptr at y1
    have HO := Lib.hid ho
    have HF := Lib.hid hf
    have HY6 := Lib.hid y6
    have hsz := hf.size
    clear y6
    by_cases hlt : k < p.n
    · have cd := KD.out wr k hf hlt
      have hN := dirL_next f k
      have hL := dirL_le f k
      have hlt' : (k : Int) < (p.n : Int) := by omega
      cases hd : (f k).dirty with
      | false =>
        rw [hd] at cd hN
        rw [if_neg (by simp)] at hN
        have HN := Lib.hid hN
        clear hN ho hf hL
        go_wp2
        go_roundw
        case rel => exact ⟨k + 1, by omega, by go_num, by rw [HN.out]; exact HO.out, HF.out⟩
        case measure => simp [intOf]; omega
      | true =>
        rw [hd] at cd hN
        rw [if_pos rfl] at hN
        have HN := Lib.hid hN
        clear hN ho hf
        generalize dirL f k = l at *
        go_wp2_with (at_builtin; go_must (refine appLB (base := w.heap.size + 1) EIi rfl _ _ rfl (by rfl) (by rfl) (by simp; omega) (own_keep HO.out ((Fr.refl NoF _).alloc _) (fun _ _ q => q)) (SlC.ofOwn (own_new (w0 := wr) (Nat.le_refl _) #[.int .i64 k] 3 1 1 _ rfl rfl (by unfold maxLen; omega)) (by simp [Value.oneCell'])) (by unfold maxLen; omega) (by omega) ?_); intro v' w5 hown' hf' _; have HF' := Lib.hid hf'; have HO' := Lib.hid hown'; clear hown' hf')
        go_roundw
        case rel =>
          refine ⟨k + 1, by omega, by go_num, ?_, ?_⟩
          · rw [HN.out]; exact OwK.snoc HO'.out
          · refine (HF.out.alloc _).trans HF'.out (fun i hi => .inr ?_)
            have := HO.out.base i hi
            omega
        case measure => simp [intOf]; omega
    · obtain rfl : k = p.n := by omega
      have hL := dirL_le f p.n
      have HC := Lib.hid (HSO.out wr _ (dirL f p.n) ho (by omega) (fun x hx => (dirL_mem.1 hx).1) (by omega) y1 y2 ⟨pl, E, I, sc, m, HY6.out⟩ (fun i q => by have := HLT.out i q; omega) (by have := htb.out; omega))
      have hbase := ho.base
      have HB := Lib.hid hbase
      clear ho hf hbase
      go_wp2_with fail
      refine HC.out.mono ?_
      rintro e w5 ⟨rfl, l', p1, p2, p3, p4⟩
      have P1 := Lib.hid p1
      have P2 := Lib.hid p2
      have P3 := Lib.hid p3
      have P4 := Lib.hid p4
      clear p1 p2 p3 p4 HC
      go_wp2
      go_returns
      exact ⟨_, l', rfl, P1.out, P2.out, P3.out, fun i q => by have := HB.out i q; omega, (B3.out.trans HF.out (fun _ q => q.elim)).trans P4.out (fun i q => .inr (by have := HB.out i q; omega))⟩
end
end Go.Proofs.YtmpjnphnljakiaaGreatDoor
namespace Go.Proofs.YtmpjnphnljakiaaGreatDoor
open Go.RowKit Go.Maps
set_option linter.unusedVariables false
set_option linter.unusedSimpArgs false
set_option linter.unusedSectionVars false
set_option maxRecDepth 100000
/-- Frames are made clean, one behind the other; what is answered. -/
def flF {τ : Type} (ax : Nat × PS τ) (k : Nat) : Nat × PS τ := (if (ax.2.clean k).1 = 0 then ax.1 else 7, (ax.2.clean k).2)
def PS.flushL {τ : Type} (X : PS τ) (l : List Nat) : Nat × PS τ := l.foldl flF (0, X)
theorem flushL_next {τ : Type} (X : PS τ) (l : List Nat) {k : Nat} (hk : k < l.length) : X.flushL (l.take (k + 1)) = flF (X.flushL (l.take k)) l[k] := by
  unfold PS.flushL
  rw [List.take_succ_eq_append_getElem hk, List.foldl_append]
  rfl
section
variable {τ : Type} {P : Adv τ} {RR : World → τ → (Nat → Prop) → Prop} {ok : Nat → τ → (Nat → Nat) → (Nat → Bool) → Prop} {p : PP} (S : RepSys P RR p.pb p.rv p.n ok) {w w' : World} {m : Nat} {F : Nat → Prop} {X : PS τ} {T : PT τ}
include S
set_option maxHeartbeats 4000000 in
theorem fa_calls (H : PW RR ok p X m w F) (hm : m < 60000) (hn : p.n ≤ 64) (hs : SortsBy p X.f w.heap.size (w.heap.size + 1)) : Calls Tryz.prog 41 #[p.ptr] w fun e w' => ∃ l' : List Nat, l'.Perm (dirL X.f p.n) ∧ (∀ i j (hi : i < l'.length) (hj : j < l'.length), i < j → ¬ (X.f l'[j]).id < (X.f l'[i]).id) ∧ e = .returned (.int .i64 (X.flushL l').1) ∧ Led (PW RR ok p (X.flushL l').2 (m + 100)) F w w' := by
  have HD := Lib.hid (dirty_calls H.1.me hs)
  have HF0 : Hid (∀ w2, Fr NoF w w2 → PW RR ok p X m w2 F) := fun w2 g => H.fr0 S g
  have KC : Hid (∀ (Y : PS τ) j k w2 F2, PW RR ok p Y j w2 F2 → j < 65000 → k < p.n → Calls Tryz.prog 57 #[p.ptr, .int .i64 k] w2 fun e w' => e = .returned (.int .i64 (Y.clean k).1) ∧ Led (PW RR ok p (Y.clean k).2 (j + 1)) F2 w2 w') := fun Y j k w2 F2 h hj hk =>
    clean_pw S h (by omega) hk (fun hd q => by rw [h.2.1.em k hk q] at hd; cases hd)
  have KM : Hid (∀ (Y : PS τ) j k w2 F2, PW RR ok p Y j w2 F2 → j ≤ k → PW RR ok p Y k w2 F2) := fun Y j k w2 F2 h hj => h.more S hj
  have hFl := H.1.lt S
  have HFL := Lib.hid hFl
  have HX := Lib.hid (show CT p.n X = CT p.n X from rfl)
  rw [show (CT p.n X).f = X.f from rfl] at HD
  unfold PP.ptr at *
  clear H S hs hFl
  go_enter Tryz.func41, Tryz.ntmps41
  go_wp2_with fail
  refine HD.out.mono ?_
  rintro e w2 ⟨v, l, rfl, d1, d2, d3, d4, d5⟩
  obtain ⟨sa, sc, rfl, s1, s2⟩ := SlK.shape d3
  have hlen : l.length ≤ p.n := by rw [d1.length_eq]; exact dirL_le _ _
  have D1 := Lib.hid d1
  have D2 := Lib.hid d2
  have D3 := Lib.hid d3
  have D4 := Lib.hid d4
  have D5 := Lib.hid d5
  have HSC := Lib.hid s2
  have HMEM : Hid (∀ x ∈ l, x < p.n) := fun x hx => (dirL_mem.1 (d1.mem_iff.1 hx)).1
  clear d1 d2 d3 d4 d5 HD s2
  go_wp2_with fail
  go_loopw [3, 11] (fun o i wr => ∃ k : Nat, k ≤ l.length ∧ i = .int .i64 k ∧ o = .int .i64 (X.flushL (l.take k)).1 ∧ Led (PW RR ok p (X.flushL (l.take k)).2 (m + k)) F w2 wr) (fun _ i _ => l.length - (intOf i).toNat)
  case atStart => exact ⟨0, Nat.zero_le _, rfl, by simp [PS.flushL], by simp only [List.take_zero]; exact Led.refl (HF0.out w2 D5.out)⟩
  case round =>
    obtain ⟨k, hk, rfl, rfl, F3, h3, g3, q3⟩ := hrel
    have lb := h3.1.me.hd.lt
    have G3 := Lib.hid g3
    have Q3 := Lib.hid q3
    by_cases hlt : k < l.length
    · have hlt' : (k : Int) < (l.length : Int) := by omega
      obtain ⟨b, off, c, ev, z1, z2, z3, z4⟩ := (SlK.fr D3.out g3 (fun b q e => by have h9 := D4.out b q; have h10 := HFL.out b e; omega)).at hlt
      simp only [Value.slice.injEq] at ev
      obtain ⟨rfl, _, rfl⟩ := ev
      have hnx := flushL_next X l hlt
      have HC := Lib.hid (KC.out _ _ l[k] wr F3 h3 (by omega) (HMEM.out _ (List.getElem_mem hlt)))
      generalize l[k] = fk at *
      generalize X.flushL (l.take k) = Y at *
      have HNX := Lib.hid hnx
      clear h3 g3 q3 hnx
      unfold maxLen at z2
      have HZ2 := Lib.hid z2
      clear z2
      go_wp2_with fail
      refine HC.out.mono ?_
      rintro e w4 ⟨rfl, h4⟩
      have H4 := Lib.hid (Led.trans (R := fun _ _ => True) G3.out Q3.out h4)
      clear h4 HC
      by_cases hz : (Y.2.clean fk).1 = 0
      · have hz' : ((((Y.2.clean fk).1 : Nat) : Int) == 0) = true := by simp [hz]
        have hz2 : ((((Y.2.clean fk).1 : Nat) : Int) != 0) = false := by simp [hz]
        have hz3 : (((Y.2.clean fk).1 : Nat) : Int) = 0 := by omega
        go_wp2
        go_roundw
        case rel => exact ⟨k + 1, by omega, by go_num, by rw [HNX.out]; unfold flF; dsimp only; rw [if_pos hz], by rw [HNX.out]; exact H4.out⟩
        case measure => simp [intOf]; omega
      · have hz' : ((((Y.2.clean fk).1 : Nat) : Int) == 0) = false := by simp <;> exact hz
        go_wp2
        go_roundw
        case rel => exact ⟨k + 1, by omega, by go_num, by rw [HNX.out]; unfold flF; dsimp only; rw [if_neg hz]; rfl, by rw [HNX.out]; exact H4.out⟩
        case measure => simp [intOf]; omega
    · obtain rfl : k = l.length := by omega
      rw [List.take_length] at h3
      have H3 := Lib.hid (KM.out _ _ (m + 100) wr F3 h3 (by omega))
      clear h3 g3 q3
      rw [List.take_length]
      go_wp2
      go_returns
      exact ⟨l, D1.out, D2.out, rfl, Led.trans (R := fun _ _ => True) (D5.out.mono (fun _ q => q.elim)) (fun i q => .inl q) ⟨F3, H3.out, G3.out, Q3.out⟩⟩
end
end Go.Proofs.YtmpjnphnljakiaaGreatDoor

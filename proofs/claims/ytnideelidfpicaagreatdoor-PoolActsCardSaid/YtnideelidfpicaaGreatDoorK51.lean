/-
  The document's pool: room, whole.
  The document's pool: Delete.
  The document's pool: NewPage.
  The document's pool: Fetch.
  The document's pool: FlushAll.
  pool: dirty, as far as the library's sort.
  pool: FlushAll, but for the library's sort.
  FlushAll: the dirty frames by their pages are the pages of the disk, one behind the other.
  pool: the library's sort of the dirty frames; FlushAll.
  pool: Advise.
  pool: New.
-/
import Derived.Test.YtnideelidfpicaaGreatDoorK50
import Derived.Test.YtnideelidfpicaaGreatDoorK48
import Derived.Deep.Cut
import Derived.Shelf.SlSortCmp.NoneTotal
import Derived.Shelf.Lay
import Derived.Ground.SlsfProg
import Derived.Test.YtnideelidfpicaaGreatDoorK47
import Derived.Deep.RegionHeld3
namespace Go.Proofs.YtnideelidfpicaaGreatDoor
open Go.RowKit
set_option linter.unusedVariables false
set_option linter.unusedSimpArgs false
set_option linter.unusedSectionVars false
section
variable {w w' : World} {q : QQ} {l : List Int} {m z : Nat} {X : PS (List Int)} {F : Nat → Prop}
theorem qf_room (H : QI q z X m w F) (hI : Inv q.n X.f X.D) (hm : m < 70000) (hall : ¬ X.all q.n = true) (id : Nat) : Calls Tryz.prog 62 #[q.ptr] w fun e w' => e = .returned (.tuple #[.int .i64 (plZ (X.room advP q.n id).1.1), .int .i64 (X.room advP q.n id).1.2]) ∧ Led (QI q z (X.room advP q.n id).2 (m + 3)) F w w' := by
  unfold PS.room
  cases hem : fstB q.n (emB q.n X.f) with
  | some x =>
    dsimp only
    refine (qf_room_e H hI hem).mono ?_
    rintro e w' ⟨he, rfl⟩
    exact ⟨he, Led.refl (H.more (by omega))⟩
  | none =>
    dsimp only
    obtain ⟨x0, hx0⟩ : ∃ x0, fstB q.n (idB q.n X.f) = some x0 := by
      cases hq : fstB q.n (idB q.n X.f) with
      | some x0 => exact ⟨x0, rfl⟩
      | none => exact absurd (by unfold PS.all; rw [hem, hq]; rfl) hall
    have hne : ∀ a, a < q.n → ¬ (X.f a).id = 0 := fun a ha e => by
      have := fstB_none hem a ha
      rw [emB_at ha] at this
      simp [e] at this
    have hV : ∀ (l : List Int), X.A = l → (∀ a, advP.victim l id = some a → idB q.n X.f a = false) → X.vic advP q.n id = (x0, l.tail, 1) := fun l hl hno => by
      unfold PS.vic
      rw [show advP.miss X.A id = l from hl]
      exact vicX_no hno hx0
    cases hA : X.A with
    | nil =>
      rw [hV [] hA (fun a h => by cases h)]
      dsimp only
      by_cases hd : (X.f x0).dirty = true
      · by_cases hw : (X.D.write (X.f x0).id (X.f x0).val).1 = 0
        · simp only [if_pos hd, if_pos hw]
          exact room_nil_wrote H hI hm hem hA hx0 hd hw
        · simp only [if_pos hd, if_neg hw]
          exact room_nil_err H hI hm hem hA hx0 hd hw
      · simp only [if_neg hd]
        exact room_nil_clean H hI hm hem hA hx0 (Bool.eq_false_iff.2 hd)
    | cons x l =>
      by_cases hx : x < 0
      · rw [hV (x :: l) hA (fun a h => by rw [show advP.victim (x :: l) id = (if x < 0 then none else some x.toNat) from rfl, if_pos hx] at h; cases h)]
        dsimp only [List.tail]
        by_cases hd : (X.f x0).dirty = true
        · by_cases hw : (X.D.write (X.f x0).id (X.f x0).val).1 = 0
          · simp only [if_pos hd, if_pos hw]
            exact room_neg_wrote H hI hm hem hA hx hx0 hd hw
          · simp only [if_pos hd, if_neg hw]
            exact room_neg_err H hI hm hem hA hx hx0 hd hw
        · simp only [if_neg hd]
          exact room_neg_clean H hI hm hem hA hx hx0 (Bool.eq_false_iff.2 hd)
      · obtain ⟨a, rfl⟩ := Int.eq_ofNat_of_zero_le (show 0 ≤ x by omega)
        have hvic : advP.victim ((a : Int) :: l) id = some a := by
          rw [show advP.victim ((a : Int) :: l) id = (if (a : Int) < 0 then none else some (a : Int).toNat) from rfl, if_neg hx]
          rfl
        by_cases hb : a < q.n
        · by_cases hp : (X.f a).pins = 0
          · have hVg : X.vic advP q.n id = (a, l, 0) := by
              unfold PS.vic
              rw [show advP.miss X.A id = (a : Int) :: l from hA]
              exact vicX_yes hvic (by rw [idB_at hb]; simp [hne a hb, hp])
            rw [hVg]
            dsimp only
            by_cases hd : (X.f a).dirty = true
            · by_cases hw : (X.D.write (X.f a).id (X.f a).val).1 = 0
              · simp only [if_pos hd, if_pos hw]
                exact room_good_wrote H hI hm hem hA hb hp hd hw
              · simp only [if_pos hd, if_neg hw]
                exact room_good_err H hI hm hem hA hb hp hd hw
            · simp only [if_neg hd]
              exact room_good_clean H hI hm hem hA hb hp (Bool.eq_false_iff.2 hd)
          · rw [hV _ hA (fun a' h => by rw [hvic] at h; cases h; rw [idB_at hb]; simp [hp])]
            dsimp only [List.tail]
            by_cases hd : (X.f x0).dirty = true
            · by_cases hw : (X.D.write (X.f x0).id (X.f x0).val).1 = 0
              · simp only [if_pos hd, if_pos hw]
                exact room_pin_wrote H hI hm hem hA hb hp hx0 hd hw
              · simp only [if_pos hd, if_neg hw]
                exact room_pin_err H hI hm hem hA hb hp hx0 hd hw
            · simp only [if_neg hd]
              exact room_pin_clean H hI hm hem hA hb hp hx0 (Bool.eq_false_iff.2 hd)
        · rw [hV _ hA (fun a' h => by rw [hvic] at h; cases h; unfold idB; rw [decide_eq_false hb]; rfl)]
          dsimp only [List.tail]
          by_cases hd : (X.f x0).dirty = true
          · by_cases hw : (X.D.write (X.f x0).id (X.f x0).val).1 = 0
            · simp only [if_pos hd, if_pos hw]
              exact room_big_wrote H hI hm hem hA (by omega) hx0 hd hw
            · simp only [if_pos hd, if_neg hw]
              exact room_big_err H hI hm hem hA (by omega) hx0 hd hw
          · simp only [if_neg hd]
            exact room_big_clean H hI hm hem hA (by omega) hx0 (Bool.eq_false_iff.2 hd)
end
end Go.Proofs.YtnideelidfpicaaGreatDoor
namespace Go.Proofs.YtnideelidfpicaaGreatDoor
open Go.RowKit
set_option linter.unusedVariables false
set_option linter.unusedSimpArgs false
set_option linter.unusedSectionVars false
set_option maxRecDepth 100000
section
variable {w w' : World} {q : QQ} {l : List Int} {m z : Nat} {X : PS (List Int)} {F : Nat → Prop}
set_option maxHeartbeats 4000000 in
theorem qf_delete (H : QI q z X m w F) (hI : Inv q.n X.f X.D) (hm : m < 70000) (id : Nat) : Calls Tryz.prog 38 #[q.ptr, .int .u32 id] w fun e w' => e = .returned (.int .i64 (X.delete advP q.n id).1) ∧ Led (QI q z (X.delete advP q.n id).2 m) F w w' := by
  have HH := H.hasC id
  obtain ⟨c0, c1, lb, lf⟩ := H.c
  have hn := H.hn
  unfold PS.delete
  by_cases hh : X.D.has id = true
  · rw [if_pos hh]
    rw [hh] at HH
    have HC := Lib.hid HH
    have h0 := hI.pos hh
    have HF := H.frC id h0
    obtain ⟨s, hs⟩ := hI.dr
    have e0 : (X.D.free id).1 = 0 := (hs.free_yes (by rw [← hs.hasE]; exact hh)).1
    cases hk : frm q.n X.f id with
    | none =>
      rw [hk, show plZ none = -1 from rfl] at HF
      have HF1 := Lib.hid HF
      have HD : Hid (Calls _ _ _ _ _) := H.dfree id
      rw [e0] at HD
      dsimp only
      unfold QQ.ptr at *
      clear H hI hh HH HF hk hs e0
      go_enter Tryz.func38, Tryz.ntmps38
      go_wp2_with fail
      refine HC.out.mono ?_
      rintro e w1 ⟨rfl, rfl⟩
      go_wp2_with fail
      refine HF1.out.mono ?_
      rintro e w1 ⟨rfl, rfl⟩
      go_wp2_with fail
      refine HD.out.mono ?_
      rintro e w1 ⟨rfl, hl⟩
      have HL := Lib.hid hl
      clear hl
      go_wp2
      go_returns
      exact ⟨rfl, HL.out⟩
    | some k =>
      obtain ⟨k1, k2⟩ := frm_some hk
      rw [hk, show plZ (some k) = (k : Int) from rfl] at HF
      have HF1 := Lib.hid HF
      have hlt : decide ((k : Int) ≥ 0) = true := by simp
      have hlt2 : decide (0 ≤ (k : Int)) = true := by simp
      obtain ⟨e1, e2, cp, e3⟩ := H.cf k1
      dsimp only
      by_cases hp : (X.f k).pins = 0
      · rw [if_pos hp]
        rw [hp] at cp
        have z0 := H.fz (k * 4)
        have z1 := H.fz (k * 4 + 1)
        have z2 := H.fz (k * 4 + 2)
        have z3 := H.fz (k * 4 + 3)
        have KW : Hid (∀ wf, wf = (((w.setCell ⟨q.fb, k * 4, none⟩ (.int .u32 0)).setCell ⟨q.fb, k * 4 + 1, none⟩ (.int .u64 0)).setCell ⟨q.fb, k * 4 + 2, none⟩ (.int .i64 0)).setCell ⟨q.fb, k * 4 + 3, none⟩ (.bool false) → Led (QI q z { X with f := upd X.f k zF } m) F w wf) := fun wf hw => H.wipe k1 ⟨by decide, by decide, by show 0 ≤ m; omega⟩ hw
        have KD : Hid (∀ w2 F2, QI q z { X with f := upd X.f k zF } m w2 F2 → w2.cell? ⟨q.pb, 0, none⟩ = some (.pointer (some ⟨q.rb, 0, none⟩)) ∧ q.pb < w2.heap.size ∧ Calls Tryz.prog 63 #[.pointer (some ⟨q.rb, 0, none⟩), .int .u32 id] w2 fun e w' => e = .returned (.int .i64 0) ∧ Led (QI q z { X with f := upd X.f k zF, D := (X.D.free id).2, A := advP.remove X.A k } m) F2 w2 w') := fun w2 F2 h => ⟨h.c.1, h.c.2.2.1, by
          have := h.dfree id
          rw [show ({ X with f := upd X.f k zF } : PS (List Int)).D = X.D from rfl, e0] at this
          exact this⟩
        generalize (X.f k).id = xi at *
        generalize (X.f k).val = xv at *
        generalize (X.f k).dirty = xd at *
        unfold QQ.ptr at *
        clear H hI hh HH HF hk k2 hp e0 hs
        go_enter Tryz.func38, Tryz.ntmps38
        go_wp2_with fail
        refine HC.out.mono ?_
        rintro e w1 ⟨rfl, rfl⟩
        go_wp2_with fail
        refine HF1.out.mono ?_
        rintro e w1 ⟨rfl, rfl⟩
        go_upto_region 8 with fail
        obtain ⟨F2, h2, g2, q2⟩ := KW.out _ rfl
        obtain ⟨x0, x1, hc⟩ := KD.out _ F2 h2
        generalize ((((w.setCell ⟨q.fb, k * 4, none⟩ (.int .u32 0)).setCell ⟨q.fb, k * 4 + 1, none⟩ (.int .u64 0)).setCell ⟨q.fb, k * 4 + 2, none⟩ (.int .i64 0)).setCell ⟨q.fb, k * 4 + 3, none⟩ (.bool false)) = w2 at x0 x1 hc g2 q2 ⊢
        have HC2 := Lib.hid hc
        have G2 := Lib.hid g2
        have Q2 := Lib.hid q2
        clear hc g2 q2 h2
        go_wp2_with fail
        refine HC2.out.mono ?_
        rintro e w3 ⟨rfl, hl⟩
        have HL := Lib.hid hl
        clear hl
        go_wp2
        go_returns
        exact ⟨rfl, Led.trans (R := fun _ _ => True) G2.out Q2.out HL.out⟩
      · rw [if_neg hp]
        have hgt : decide (((X.f k).pins : Int) > 0) = true := decide_eq_true (by omega)
        have hgt2 : decide (0 < ((X.f k).pins : Int)) = true := decide_eq_true (by omega)
        have hgt3 : decide (0 < (X.f k).pins) = true := decide_eq_true (by omega)
        have hgt4 : 0 < (X.f k).pins := by omega
        have hgt5 : (0 : Int) < ((X.f k).pins : Int) := by omega
        have HL := Lib.hid (Led.refl H)
        generalize (X.f k).pins = xp at *
        unfold QQ.ptr at *
        clear H hI hh HH HF hk k2 hp e0 hs
        go_enter Tryz.func38, Tryz.ntmps38
        go_wp2_with fail
        refine HC.out.mono ?_
        rintro e w1 ⟨rfl, rfl⟩
        go_wp2_with fail
        refine HF1.out.mono ?_
        rintro e w1 ⟨rfl, rfl⟩
        go_wp2
        go_returns
        exact ⟨rfl, HL.out⟩
  · rw [if_neg hh]
    rw [show X.D.has id = false from by simpa using hh] at HH
    have HC := Lib.hid HH
    have HL := Lib.hid (Led.refl H)
    unfold QQ.ptr at *
    clear H hI hh HH
    go_enter Tryz.func38, Tryz.ntmps38
    go_wp2_with fail
    refine HC.out.mono ?_
    rintro e w1 ⟨rfl, rfl⟩
    go_wp2
    go_returns
    exact ⟨rfl, HL.out⟩
end
end Go.Proofs.YtnideelidfpicaaGreatDoor
namespace Go.Proofs.YtnideelidfpicaaGreatDoor
open Go.RowKit Go.Maps
set_option linter.unusedVariables false
set_option linter.unusedSimpArgs false
set_option linter.unusedSectionVars false
set_option maxRecDepth 100000
/-- A pool of so many frames, to speak of what room leaves. -/
def ppQ (n : Nat) : PP := ⟨n, 0, 0, 0, 0, advV 0, advV 0, fun _ => 0, 0, advV 0, fun _ => 0, 0⟩
theorem qroom_inv {n : Nat} {X : PS (List Int)} {id : Nat} (hI : Inv n X.f X.D) (h1 : 1 ≤ id) (hno : ∀ i, i < n → ¬ (X.f i).id = id) (hall : ¬ X.all n = true) :
    Inv n (X.room advP n id).2.f (X.room advP n id).2.D ∧ (∀ i, i < n → ¬ ((X.room advP n id).2.f i).id = id) ∧ (∀ x, (X.room advP n id).2.D.has x = X.D.has x) ∧
    (∀ k, (X.room advP n id).1.1 = some k → (X.room advP n id).1.2 = 0 ∧ k < n ∧ (X.room advP n id).2.f k = zF) ∧ ((X.room advP n id).1.1 = none → ¬ (X.room advP n id).1.2 = 0) := by
  obtain ⟨r1, _, r3, r4, r5, _, r7, r8⟩ := room_inv (p := ppQ n) (m := 0) (X := X) (adv_sys (ppQ n).pb 0 (ppQ n).n) (D0 := X.D) hI (by omega) trivial h1 hno hall
  exact ⟨r1, r3, r4, r7, fun e => (r8 e).1⟩
section
variable {w w' : World} {q : QQ} {l : List Int} {m z : Nat} {X : PS (List Int)} {F : Nat → Prop}
theorem QI.gap (H : QI q z X m w F) (hf : X.D.L.length < X.D.room) : gapOf X.D.L + 1 < 4294967296 := by
  obtain ⟨FD, _, _, _, _, _, _, h5, _⟩ := H.qd
  have := (gapOf_is X.D.L).le
  omega
theorem QI.allC (H : QI q z X m w F) (hI : Inv q.n X.f X.D) : Calls Tryz.prog 60 #[q.ptr] w fun e w' => e = .returned (.bool (X.all q.n)) ∧ w = w' := by
  obtain ⟨av, h⟩ := H.qm
  exact qf_all h hI
/-- What a store of a whole frame wants. -/
theorem QI.zero (H : QI q z X m w F) {k : Nat} (hk : k < q.n) (hz : X.f k = zF) : (w.cell? ⟨q.pb, 1, none⟩ = some (.slice (some ⟨q.fb, 0, none⟩) q.n q.n) ∧ q.pb < w.heap.size ∧ q.fb < w.heap.size) ∧
    (w.cell? ⟨q.fb, k * 4, none⟩ = some (.int .u32 0) ∧ w.cell? ⟨q.fb, k * 4 + 1, none⟩ = some (.int .u64 0) ∧ w.cell? ⟨q.fb, k * 4 + 2, none⟩ = some (.int .i64 0) ∧ w.cell? ⟨q.fb, k * 4 + 3, none⟩ = some (.bool false)) ∧
    (w.frozen? ⟨q.fb, k * 4, none⟩ = false ∧ w.frozen? ⟨q.fb, k * 4 + 1, none⟩ = false ∧ w.frozen? ⟨q.fb, k * 4 + 2, none⟩ = false ∧ w.frozen? ⟨q.fb, k * 4 + 3, none⟩ = false) := by
  have h := H.cf hk
  rw [hz] at h
  exact ⟨⟨H.c.2.1, H.c.2.2.1, H.c.2.2.2⟩, h, H.fz _, H.fz _, H.fz _, H.fz _⟩
set_option maxHeartbeats 4000000 in
theorem qf_newPage (H : QI q z X m w F) (hI : Inv q.n X.f X.D) (hm : m < 60000) : Calls Tryz.prog 26 #[q.ptr] w fun e w' => e = .returned (.tuple #[.int .u32 (X.newPage advP q.n).1.1, .int .i64 (X.newPage advP q.n).1.2]) ∧ Led (QI q z (X.newPage advP q.n).2 (m + 10)) F w w' := by
  have HA0 := H.allC hI
  unfold PS.newPage
  by_cases ha : X.all q.n = true
  · rw [if_pos ha]
    rw [ha] at HA0
    have HA := Lib.hid HA0
    have HL := Lib.hid (Led.refl (H.more (show m ≤ m + 10 by omega)))
    unfold QQ.ptr at *
    clear H hI ha HA0
    go_enter Tryz.func26, Tryz.ntmps26
    go_wp2_with fail
    refine HA.out.mono ?_
    rintro e w1 ⟨rfl, rfl⟩
    go_wp2
    go_returns
    exact ⟨rfl, HL.out⟩
  · rw [if_neg ha]
    rw [Bool.eq_false_iff.2 ha] at HA0
    have HA := Lib.hid HA0
    obtain ⟨c0, c1, lb, lf⟩ := H.c
    have hn := H.hn
    by_cases hf : X.D.room ≤ X.D.L.length
    · rw [if_pos hf]
      have HL := Lib.hid ((H.dfull hf).mono (fun e w' ⟨he, hl⟩ => (⟨he, hl.mono (fun F' h => h.more (show m ≤ m + 10 by omega))⟩ : e = Ending.returned (.tuple #[.int .u32 0, .int .i64 2]) ∧ Led (QI q z X (m + 10)) F w w')))
      unfold QQ.ptr at *
      clear H hI ha HA0 hf
      go_enter Tryz.func26, Tryz.ntmps26
      go_wp2_with fail
      refine HA.out.mono ?_
      rintro e w1 ⟨rfl, rfl⟩
      go_wp2_with fail
      refine HL.out.mono ?_
      rintro e w1 ⟨rfl, h1⟩
      have H1 := Lib.hid h1
      clear h1
      go_wp2
      go_returns
      exact ⟨rfl, H1.out⟩
    · rw [if_neg hf]
      have hf' : X.D.L.length < X.D.room := by omega
      have hu := H.gap hf'
      have HL := Lib.hid (H.dalloc hf')
      have hno : ∀ i, i < q.n → ¬ (X.f i).id = gapOf X.D.L + 1 := fun i hi e => by
        have h1 := hI.has i hi (by omega)
        rw [e, hI.gap] at h1; cases h1
      have hI2 : Inv q.n ({ X with D := X.D.ins (gapOf X.D.L) } : PS (List Int)).f ({ X with D := X.D.ins (gapOf X.D.L) } : PS (List Int)).D := hI.ins hf'
      have ha2 : ¬ ({ X with D := X.D.ins (gapOf X.D.L) } : PS (List Int)).all q.n = true := ha
      obtain ⟨r1, r3, r4, r7, r8⟩ := qroom_inv hI2 (show 1 ≤ gapOf X.D.L + 1 by omega) hno ha2
      have HR : Hid (∀ w1 F1, QI q z { X with D := X.D.ins (gapOf X.D.L) } m w1 F1 → q.pb < w1.heap.size ∧ Calls Tryz.prog 62 #[q.ptr] w1 fun e w' => e = .returned (.tuple #[.int .i64 (plZ (({ X with D := X.D.ins (gapOf X.D.L) } : PS (List Int)).room advP q.n (gapOf X.D.L + 1)).1.1), .int .i64 (({ X with D := X.D.ins (gapOf X.D.L) } : PS (List Int)).room advP q.n (gapOf X.D.L + 1)).1.2]) ∧ Led (QI q z (({ X with D := X.D.ins (gapOf X.D.L) } : PS (List Int)).room advP q.n (gapOf X.D.L + 1)).2 (m + 3)) F1 w1 w') := fun w1 F1 h => ⟨h.c.2.2.1, qf_room h hI2 (by omega) ha2 _⟩
      generalize ({ X with D := X.D.ins (gapOf X.D.L) } : PS (List Int)).room advP q.n (gapOf X.D.L + 1) = R at *
      obtain ⟨⟨q1, q2⟩, R2⟩ := R
      dsimp only at *
      cases q1 with
      | none =>
        have r9 := r8 rfl
        dsimp only
        rw [show plZ none = -1 from rfl] at HR
        have hne : (((q2 : Nat) : Int) == 0) = false := by simp <;> exact r9
        have HFin : Hid (∀ w2 F2, QI q z R2 (m + 3) w2 F2 → (w2.cell? ⟨q.pb, 0, none⟩ = some (.pointer (some ⟨q.rb, 0, none⟩)) ∧ q.pb < w2.heap.size) ∧ Calls Tryz.prog 63 #[.pointer (some ⟨q.rb, 0, none⟩), .int .u32 (gapOf X.D.L + 1 : Nat)] w2 fun e w' => (∃ x, e = .returned x) ∧ Led (QI q z { R2 with D := (R2.D.free (gapOf X.D.L + 1)).2 } (m + 10)) F2 w2 w') := fun w2 F2 h => ⟨⟨h.c.1, h.c.2.2.1⟩, by
          refine (h.dfree _).mono ?_
          rintro e w' ⟨he, hl⟩
          exact ⟨⟨_, he⟩, hl.mono (fun F' h' => h'.more (by omega))⟩⟩
        unfold QQ.ptr at *
        clear H hI ha HA0 hf hf' hno hI2 ha2 r1 r3 r4 r7 r8 r9
        generalize hgi : gapOf X.D.L + 1 = id at *
        clear hgi hu
        go_enter Tryz.func26, Tryz.ntmps26
        go_wp2_with fail
        refine HA.out.mono ?_
        rintro e w1 ⟨rfl, rfl⟩
        go_wp2_with fail
        refine HL.out.mono ?_
        rintro e w1 ⟨rfl, F1, h1, g1, k1⟩
        obtain ⟨lb1, hc1⟩ := HR.out w1 F1 h1
        have HR1 := Lib.hid hc1
        have G1 := Lib.hid g1
        have K1 := Lib.hid k1
        clear h1 g1 k1 HR hc1
        go_wp2_with fail
        refine HR1.out.mono ?_
        rintro e w2 ⟨rfl, F2, h2, g2, k2⟩
        obtain ⟨⟨c2, lb2⟩, hc2⟩ := HFin.out w2 F2 h2
        have HF2 := Lib.hid hc2
        have G2 := Lib.hid g2
        have K2 := Lib.hid k2
        clear h2 g2 k2 HFin HR1 hc2
        go_wp2_with fail
        refine HF2.out.mono ?_
        rintro e w3 ⟨⟨x, rfl⟩, h3⟩
        have H3 := Lib.hid h3
        clear h3
        go_wp2
        go_returns
        exact ⟨rfl, Led.trans (R := fun _ _ => True) G1.out K1.out (Led.trans (R := fun _ _ => True) G2.out K2.out H3.out)⟩
      | some k =>
        obtain ⟨r9, r10, r11⟩ := r7 k rfl
        subst r9
        dsimp only
        rw [show plZ (some k) = (k : Int) from rfl] at HR
        have HFin : Hid (∀ w2 F2, QI q z R2 (m + 3) w2 F2 → Led (QI q z { R2 with f := upd R2.f k ⟨gapOf X.D.L + 1, 0, 1, false⟩, A := advP.access R2.A k (gapOf X.D.L + 1) } (m + 10)) F2 w2 ((((w2.setCell ⟨q.fb, k * 4, none⟩ (.int .u32 (gapOf X.D.L + 1 : Nat))).setCell ⟨q.fb, k * 4 + 1, none⟩ (.int .u64 0)).setCell ⟨q.fb, k * 4 + 2, none⟩ (.int .i64 1)).setCell ⟨q.fb, k * 4 + 3, none⟩ (.bool false))) := fun w2 F2 h =>
          (h.wipe r10 (x := ⟨gapOf X.D.L + 1, 0, 1, false⟩) ⟨hu, by show 0 < _; omega, by show 1 ≤ m + 3; omega⟩ rfl).mono (fun F' h' => h'.more (by omega))
        have KX : Hid (∀ w2 F2, QI q z R2 (m + 3) w2 F2 → _) := fun w2 F2 h => h.zero r10 r11
        unfold QQ.ptr at *
        clear H hI ha HA0 hf hf' hno hI2 ha2 r1 r3 r4 r7 r8 r11
        generalize hgi : gapOf X.D.L + 1 = id at *
        clear hgi hu
        go_enter Tryz.func26, Tryz.ntmps26
        go_wp2_with fail
        refine HA.out.mono ?_
        rintro e w1 ⟨rfl, rfl⟩
        go_wp2_with fail
        refine HL.out.mono ?_
        rintro e w1 ⟨rfl, F1, h1, g1, k1⟩
        obtain ⟨lb1, hc1⟩ := HR.out w1 F1 h1
        have HR1 := Lib.hid hc1
        have G1 := Lib.hid g1
        have K1 := Lib.hid k1
        clear h1 g1 k1 HR hc1
        go_wp2_with fail
        refine HR1.out.mono ?_
        rintro e w2 ⟨rfl, F2, h2, g2, k2⟩
        have HF2 := Lib.hid (HFin.out w2 F2 h2)
        obtain ⟨⟨y1, y2, y3⟩, ⟨y4, y5, y6, y7⟩, y8, y9, y10, y11⟩ := KX.out w2 F2 h2
        have G2 := Lib.hid g2
        have K2 := Lib.hid k2
        clear h2 g2 k2 HFin HR1 KX
        go_wp2
        go_returns
        exact ⟨rfl, Led.trans (R := fun _ _ => True) G1.out K1.out (Led.trans (R := fun _ _ => True) G2.out K2.out HF2.out)⟩
end
end Go.Proofs.YtnideelidfpicaaGreatDoor
namespace Go.Proofs.YtnideelidfpicaaGreatDoor
open Go.RowKit Go.Maps
set_option linter.unusedVariables false
set_option linter.unusedSimpArgs false
set_option linter.unusedSectionVars false
set_option maxRecDepth 100000
section
variable {w w' : World} {q : QQ} {l : List Int} {m z : Nat} {X : PS (List Int)} {F : Nat → Prop}
set_option maxHeartbeats 4000000 in
theorem qf_fetch_in (H : QI q z X m w F) (hI : Inv q.n X.f X.D) (hm : m < 60000) {id k : Nat} (hh : X.D.has id = true) (hk : frm q.n X.f id = some k) : Calls Tryz.prog 27 #[q.ptr, .int .u32 id] w fun e w' => e = .returned (.int .i64 0) ∧ Led (QI q z (X.touch advP k) (m + 10)) F w w' := by
  have HH := H.hasC id
  rw [hh] at HH
  have HC := Lib.hid HH
  obtain ⟨c0, c1, lb, lf⟩ := H.c
  have hn := H.hn
  have h0 := hI.pos hh
  have HF := H.frC id h0
  rw [hk, show plZ (some k) = (k : Int) from rfl] at HF
  have HF1 := Lib.hid HF
  obtain ⟨k1, k2⟩ := frm_some hk
  have cp := (H.cf k1).2.2.1
  have z2 := H.fz (k * 4 + 2)
  have hb := H.bdk k
  unfold PS.touch
  rw [show (if (X.f k).pins = 0 then advP.set (advP.access X.A k (X.f k).id) k false else advP.access X.A k (X.f k).id) = X.A from by split <;> rfl]
  have KP : Hid (∀ zz : Int, zz = (((X.f k).pins + 1 : Nat) : Int) → ∀ wf, (wf = w.setCell ⟨q.fb, k * 4 + 2, none⟩ (.int .i64 zz) ∨ wf = (w.setCell ⟨q.fb, k * 4 + 2, none⟩ (.int .i64 zz)).drew) → Led (QI q z { X with f := upd X.f k { X.f k with pins := (X.f k).pins + 1 } } (m + 10)) F w wf) := fun zz hzz wf hwf => by
    subst hzz
    have g : Fr (fun i => i = q.fb) w (w.setCell ⟨q.fb, k * 4 + 2, none⟩ (.int .i64 (((X.f k).pins + 1 : Nat) : Int))) := (Fr.refl (fun i => i = q.fb) w).setCell (p := ⟨q.fb, _, none⟩) (.inl rfl) _
    have hp : ∀ av, QM w q X.f X.A X.sc m av → QM (w.setCell ⟨q.fb, k * 4 + 2, none⟩ (.int .i64 (((X.f k).pins + 1 : Nat) : Int))) q (upd X.f k { X.f k with pins := (X.f k).pins + 1 }) X.A X.sc (m + 10) av := fun av h => (h.put1 (m' := m + 10) (j := 2) k1 { X.f k with pins := (X.f k).pins + 1 } (.int .i64 (((X.f k).pins + 1 : Nat) : Int)) (frV_setp X.f k _) (by omega) ⟨hb.1, hb.2.1, by show (X.f k).pins + 1 ≤ m + 10; omega⟩).1
    rcases hwf with rfl | rfl
    · exact H.cells (by omega) hp g
    · exact H.cells (by omega) (fun av h => (hp av h).fr0 ((Fr.refl NoF _).drew)) g.drew
  have hpm : (X.f k).pins < 900000 := by omega
  have hgt2 : decide (0 ≤ (k : Int)) = true := by simp
  generalize (X.f k).pins = xp at *
  unfold QQ.ptr at *
  clear H hI hh HH HF hk k2 hb
  have hcw : IntKind.i64.wrap ((xp : Int) + 1) = (xp : Int) + 1 := IntWalk.i64_in _ (by omega)
  go_enter Tryz.func27, Tryz.ntmps27
  go_wp2_with fail
  refine HC.out.mono ?_
  rintro e w1 ⟨rfl, rfl⟩
  go_wp2_with fail
  refine HF1.out.mono ?_
  rintro e w1 ⟨rfl, rfl⟩
  go_wp2
  go_returns
  exact ⟨rfl, KP.out _ (by first | rfl | omega) _ (by first | exact .inl rfl | exact .inr rfl)⟩
set_option maxHeartbeats 4000000 in
theorem qf_fetch (H : QI q z X m w F) (hI : Inv q.n X.f X.D) (hm : m < 60000) {id : Nat} (hu : id < 4294967296) : Calls Tryz.prog 27 #[q.ptr, .int .u32 id] w fun e w' => e = .returned (.int .i64 (X.fetch advP q.n id).1) ∧ Led (QI q z (X.fetch advP q.n id).2 (m + 10)) F w w' := by
  have HH := H.hasC id
  obtain ⟨c0, c1, lb, lf⟩ := H.c
  have hn := H.hn
  unfold PS.fetch
  by_cases hh : X.D.has id = true
  · rw [if_pos hh]
    cases hk : frm q.n X.f id with
    | some k => exact qf_fetch_in H hI hm hh hk
    | none =>
      dsimp only
      rw [hh] at HH
      have HC := Lib.hid HH
      have h0 := hI.pos hh
      have HF := H.frC id h0
      rw [hk, show plZ none = -1 from rfl] at HF
      have HF1 := Lib.hid HF
      have HA0 := H.allC hI
      by_cases ha : X.all q.n = true
      · rw [if_pos ha]
        rw [ha] at HA0
        have HA := Lib.hid HA0
        have HL := Lib.hid (Led.refl (H.more (show m ≤ m + 10 by omega)))
        unfold QQ.ptr at *
        clear H hI hh HH HF hk HA0 ha
        go_enter Tryz.func27, Tryz.ntmps27
        go_wp2_with fail
        refine HC.out.mono ?_
        rintro e w1 ⟨rfl, rfl⟩
        go_wp2_with fail
        refine HF1.out.mono ?_
        rintro e w1 ⟨rfl, rfl⟩
        go_wp2_with fail
        refine HA.out.mono ?_
        rintro e w1 ⟨rfl, rfl⟩
        go_wp2
        go_returns
        exact ⟨rfl, HL.out⟩
      · rw [if_neg ha]
        rw [Bool.eq_false_iff.2 ha] at HA0
        have HA := Lib.hid HA0
        obtain ⟨r1, r3, r4, r7, r8⟩ := qroom_inv hI h0 (frm_none hk) ha
        have hr0 := qf_room H hI (by omega) ha id
        generalize X.room advP q.n id = R at *
        obtain ⟨⟨q1, q2⟩, R2⟩ := R
        dsimp only at *
        cases q1 with
        | none =>
          have r9 := r8 rfl
          dsimp only
          rw [show plZ none = -1 from rfl] at hr0
          have HR := Lib.hid (hr0.mono (fun e w' ⟨he, hl⟩ => (⟨he, hl.mono (fun F' h => h.more (show m + 3 ≤ m + 10 by omega))⟩ : e = Ending.returned (.tuple #[.int .i64 (-1), .int .i64 q2]) ∧ Led (QI q z R2 (m + 10)) F w w')))
          have hne : (((q2 : Nat) : Int) == 0) = false := by simp <;> exact r9
          unfold QQ.ptr at *
          clear H hI hh HH HF hk HA0 ha r1 r3 r4 r7 r8 r9 hr0
          go_enter Tryz.func27, Tryz.ntmps27
          go_wp2_with fail
          refine HC.out.mono ?_
          rintro e w1 ⟨rfl, rfl⟩
          go_wp2_with fail
          refine HF1.out.mono ?_
          rintro e w1 ⟨rfl, rfl⟩
          go_wp2_with fail
          refine HA.out.mono ?_
          rintro e w1 ⟨rfl, rfl⟩
          go_wp2_with fail
          refine HR.out.mono ?_
          rintro e w1 ⟨rfl, hl⟩
          have HL := Lib.hid hl
          clear hl
          go_wp2
          go_returns
          exact ⟨rfl, HL.out⟩
        | some k =>
          obtain ⟨r9, r10, r11⟩ := r7 k rfl
          subst r9
          dsimp only
          rw [show plZ (some k) = (k : Int) from rfl] at hr0
          have HR := Lib.hid hr0
          have hv : (R2.D.read id).1.1 < 18446744073709551616 := RS.read_v r1.vd
          have HD : Hid (∀ w1 F1, QI q z R2 (m + 3) w1 F1 → (w1.cell? ⟨q.pb, 0, none⟩ = some (.pointer (some ⟨q.rb, 0, none⟩)) ∧ q.pb < w1.heap.size) ∧ Calls Tryz.prog 64 #[.pointer (some ⟨q.rb, 0, none⟩), .int .u32 id] w1 fun e w' => e = .returned (.tuple #[.int .u64 (R2.D.read id).1.1, .int .i64 (R2.D.read id).1.2]) ∧ Led (QI q z { R2 with D := (R2.D.read id).2 } (m + 4)) F1 w1 w') := fun w1 F1 h => ⟨⟨h.c.1, h.c.2.2.1⟩, h.dread (by omega) id⟩
          have KX : Hid (∀ w2 F2, QI q z { R2 with D := (R2.D.read id).2 } (m + 4) w2 F2 → _) := fun w2 F2 h => h.zero r10 r11
          have KW : Hid (∀ w2 F2, QI q z { R2 with D := (R2.D.read id).2 } (m + 4) w2 F2 → Led (QI q z { R2 with f := upd R2.f k ⟨id, (R2.D.read id).1.1, 1, false⟩, D := (R2.D.read id).2, A := advP.access R2.A k id } (m + 10)) F2 w2 ((((w2.setCell ⟨q.fb, k * 4, none⟩ (.int .u32 id)).setCell ⟨q.fb, k * 4 + 1, none⟩ (.int .u64 (R2.D.read id).1.1)).setCell ⟨q.fb, k * 4 + 2, none⟩ (.int .i64 1)).setCell ⟨q.fb, k * 4 + 3, none⟩ (.bool false))) := fun w2 F2 h =>
            (h.wipe r10 (x := ⟨id, (R2.D.read id).1.1, 1, false⟩) ⟨hu, hv, by show 1 ≤ m + 4; omega⟩ rfl).mono (fun F' h' => h'.more (by omega))
          have KM : Hid (∀ w2 F2, QI q z { R2 with D := (R2.D.read id).2 } (m + 4) w2 F2 → QI q z { R2 with D := (R2.D.read id).2, A := advP.remove (advP.access R2.A k id) k } (m + 10) w2 F2) := fun w2 F2 h => h.more (by omega)
          generalize R2.D.read id = V at *
          obtain ⟨⟨v, er⟩, D2⟩ := V
          dsimp only at *
          by_cases he : er = 0
          · subst he
            rw [if_pos rfl]
            unfold QQ.ptr at *
            clear H hI hh HH HF hk HA0 ha r1 r3 r4 r7 r8 r11 hr0 KM
            go_enter Tryz.func27, Tryz.ntmps27
            go_wp2_with fail
            refine HC.out.mono ?_
            rintro e w1 ⟨rfl, rfl⟩
            go_wp2_with fail
            refine HF1.out.mono ?_
            rintro e w1 ⟨rfl, rfl⟩
            go_wp2_with fail
            refine HA.out.mono ?_
            rintro e w1 ⟨rfl, rfl⟩
            go_wp2_with fail
            refine HR.out.mono ?_
            rintro e w1 ⟨rfl, F1, h1, g1, k1⟩
            obtain ⟨⟨x0, x1⟩, hd⟩ := HD.out w1 F1 h1
            have HD1 := Lib.hid hd
            have G1 := Lib.hid g1
            have K1 := Lib.hid k1
            clear h1 g1 k1 hd HD
            go_wp2_with fail
            refine HD1.out.mono ?_
            rintro e w2 ⟨rfl, F2, h2, g2, k2⟩
            have HF2 := Lib.hid (KW.out w2 F2 h2)
            obtain ⟨⟨y1, y2, y3⟩, ⟨y4, y5, y6, y7⟩, y8, y9, y10, y11⟩ := KX.out w2 F2 h2
            have G2 := Lib.hid g2
            have K2 := Lib.hid k2
            clear h2 g2 k2 KW KX HD1
            go_wp2
            go_returns
            exact ⟨rfl, Led.trans (R := fun _ _ => True) G1.out K1.out (Led.trans (R := fun _ _ => True) G2.out K2.out HF2.out)⟩
          · rw [if_neg he]
            have hne : (((er : Nat) : Int) == 0) = false := by simp <;> exact he
            unfold QQ.ptr at *
            clear H hI hh HH HF hk HA0 ha r1 r3 r4 r7 r8 r11 hr0 KW KX
            go_enter Tryz.func27, Tryz.ntmps27
            go_wp2_with fail
            refine HC.out.mono ?_
            rintro e w1 ⟨rfl, rfl⟩
            go_wp2_with fail
            refine HF1.out.mono ?_
            rintro e w1 ⟨rfl, rfl⟩
            go_wp2_with fail
            refine HA.out.mono ?_
            rintro e w1 ⟨rfl, rfl⟩
            go_wp2_with fail
            refine HR.out.mono ?_
            rintro e w1 ⟨rfl, F1, h1, g1, k1⟩
            obtain ⟨⟨x0, x1⟩, hd⟩ := HD.out w1 F1 h1
            have HD1 := Lib.hid hd
            have G1 := Lib.hid g1
            have K1 := Lib.hid k1
            clear h1 g1 k1 hd HD
            go_wp2_with fail
            refine HD1.out.mono ?_
            rintro e w2 ⟨rfl, F2, h2, g2, k2⟩
            have HL : Hid (Led (QI q z { R2 with D := D2, A := advP.remove (advP.access R2.A k id) k } (m + 10)) F w w2) := Led.trans (R := fun _ _ => True) G1.out K1.out ⟨F2, KM.out w2 F2 h2, g2, k2⟩
            clear h2 g2 k2 KM HD1
            go_wp2
            go_returns
            exact ⟨rfl, HL.out⟩
  · rw [if_neg hh]
    rw [show X.D.has id = false from by simpa using hh] at HH
    have HC := Lib.hid HH
    have HL := Lib.hid (Led.refl (H.more (show m ≤ m + 10 by omega)))
    unfold QQ.ptr at *
    clear H hI hh HH
    go_enter Tryz.func27, Tryz.ntmps27
    go_wp2_with fail
    refine HC.out.mono ?_
    rintro e w1 ⟨rfl, rfl⟩
    go_wp2
    go_returns
    exact ⟨rfl, HL.out⟩
end
end Go.Proofs.YtnideelidfpicaaGreatDoor
namespace Go.Proofs.YtnideelidfpicaaGreatDoor
open Go.RowKit Go.Maps
set_option linter.unusedVariables false
set_option linter.unusedSimpArgs false
set_option linter.unusedSectionVars false
set_option maxRecDepth 100000
/-- Pages are flushed, one behind the other; what is answered. -/
def flD {τ : Type} (n : Nat) (ax : Nat × PS τ) (p : Nat × Nat) : Nat × PS τ := (if (ax.2.flush n p.1).1 = 0 then ax.1 else (ax.2.flush n p.1).1, (ax.2.flush n p.1).2)
def PS.flushD {τ : Type} (X : PS τ) (n : Nat) (l : List (Nat × Nat)) : Nat × PS τ := l.foldl (flD n) (0, X)
theorem flushD_next {τ : Type} (X : PS τ) (n : Nat) (l : List (Nat × Nat)) {k : Nat} (hk : k < l.length) : X.flushD n (l.take (k + 1)) = flD n (X.flushD n (l.take k)) l[k] := by
  unfold PS.flushD
  rw [List.take_succ_eq_append_getElem hk, List.foldl_append]
  rfl
theorem clean_inv {τ : Type} {X : PS τ} {n k : Nat} (hI : Inv n X.f X.D) (hk : k < n) (h0 : ¬ (X.f k).id = 0) : Inv n (X.clean k).2.f (X.clean k).2.D := by
  unfold PS.clean
  by_cases hd : (X.f k).dirty = true
  · rw [if_pos hd]
    by_cases hw : (X.D.write (X.f k).id (X.f k).val).1 = 0
    · rw [if_pos hw]; exact (hI.write _ (hI.vf k hk)).keep hk rfl h0 (hI.vf k hk)
    · rw [if_neg hw]; exact hI.write _ (hI.vf k hk)
  · rw [if_neg hd]; exact hI
theorem flush_inv {τ : Type} {X : PS τ} {n : Nat} (hI : Inv n X.f X.D) (id : Nat) : Inv n (X.flush n id).2.f (X.flush n id).2.D := by
  unfold PS.flush
  by_cases hh : X.D.has id = true
  · rw [if_pos hh]
    cases hk : frm n X.f id with
    | none => exact hI
    | some k =>
      obtain ⟨k1, k2, k3⟩ := hI.fpos hh hk
      exact clean_inv hI k1 (by omega)
  · rw [if_neg hh]; exact hI
section
variable {w w' : World} {q : QQ} {l : List Int} {m z : Nat} {X : PS (List Int)} {F : Nat → Prop}
theorem QI.pages (H : QI q z X m w F) : ∃ lv, w.cell? ⟨q.rb, 1, none⟩ = some lv ∧ SlP w lv X.D.L ∧ q.rb < w.heap.size := by
  obtain ⟨FD, lv, nv, sv, h, _⟩ := H.qd
  exact ⟨lv, h.ce 1 (by omega), h.hl, h.hd.lt⟩
set_option maxHeartbeats 4000000 in
theorem qf_flushAll (H : QI q z X m w F) (hI : Inv q.n X.f X.D) (hm : m < 60000) (hl : X.D.L.length ≤ 100) : Calls Tryz.prog 36 #[q.ptr] w fun e w' => e = .returned (.int .i64 (X.flushD q.n X.D.L).1) ∧ Led (QI q z (X.flushD q.n X.D.L).2 (m + 100)) F w w' := by
  obtain ⟨lv, c1, hs, lr⟩ := H.pages
  obtain ⟨c0, _, lb, _⟩ := H.c
  obtain ⟨sa, sc, rfl, s1, s2⟩ := hs.shape
  have HST : Hid (∀ W, Fr NoF w W → SlP W (.slice sa X.D.L.length sc) X.D.L) := fun W f => hs.fr0 f
  have HF0 : Hid (∀ w2, Fr NoF w w2 → QI q z X m w2 F) := fun w2 g => H.fr0 g
  have KC : Hid (∀ (Y : PS (List Int)) j id w2 F2, QI q z Y j w2 F2 → Inv q.n Y.f Y.D → j < 65000 → Calls Tryz.prog 34 #[q.ptr, .int .u32 (id : Nat)] w2 fun e w' => e = .returned (.int .i64 (Y.flush q.n id).1) ∧ Led (QI q z (Y.flush q.n id).2 (j + 1)) F2 w2 w') := fun Y j id w2 F2 h hi hj => qf_flush h hi (by omega) id
  have KI : Hid (∀ (Y : PS (List Int)) id, Inv q.n Y.f Y.D → Inv q.n (Y.flush q.n id).2.f (Y.flush q.n id).2.D) := fun Y id h => flush_inv h id
  have KM : Hid (∀ (Y : PS (List Int)) j k w2 F2, QI q z Y j w2 F2 → j ≤ k → QI q z Y k w2 F2 ∧ q.pb < w2.heap.size) := fun Y j k w2 F2 h hj => ⟨h.more hj, h.c.2.2.1⟩
  have HFL := Lib.hid H.lt
  have HI := Lib.hid hI
  have K : Hid (∀ v' w2, w2.ownsRow w.heap.size 89 2 v' (0 + X.D.L.length) ([] ++ plC X.D.L) → SlP w2 v' X.D.L ∧ ∀ b, v'.ownBlock = some b → w.heap.size ≤ b) := fun v' w2 ho => by
    have hb := ownBlock_own ho
    rw [List.nil_append, Nat.zero_add] at ho
    exact ⟨SlC.ofOwn ho (plC_one _), hb⟩
  generalize hL : X.D.L = L at *
  have hmax : sc ≤ 9223372036854775807 := s2
  unfold QQ.ptr at *
  clear H hI hs hL s2
  go_enter Tryz.func36, Tryz.ntmps36
  go_wp2_with (at_builtin; go_must (refine appLB (base := w.heap.size) EIP rfl _ _ rfl (by rfl) (by rfl) (by simp) (own_new (w0 := w) (Nat.le_refl _) #[] 89 2 0 _ rfl rfl (by unfold maxLen; omega)) (HST.out _ ((Fr.refl NoF _).alloc _)) (by unfold maxLen; omega) (by omega) ?_); intro v' w2 hown' hf' hob'; obtain ⟨hp', hn'⟩ := K.out v' w2 hown'; have D5 := Lib.hid (((Fr.refl NoF w).alloc _).trans hf' (fun i q => .inr (by cases q; exact Nat.le_refl _)) : Fr NoF w w2); obtain ⟨pa, pc, rfl, s3, s4⟩ := hp'.shape; have D3 := Lib.hid hp'; have D4 := Lib.hid hn'; have HSC := Lib.hid s4; clear hown' hf' hob' hp' hn' s4)
  go_loopw [3, 5] (fun o i wr => ∃ k : Nat, k ≤ L.length ∧ i = .int .i64 k ∧ o = .int .i64 (X.flushD q.n (L.take k)).1 ∧ Inv q.n (X.flushD q.n (L.take k)).2.f (X.flushD q.n (L.take k)).2.D ∧ Led (QI q z (X.flushD q.n (L.take k)).2 (m + k)) F w2 wr) (fun _ i _ => L.length - (intOf i).toNat)
  case atStart => exact ⟨0, Nat.zero_le _, rfl, by simp [PS.flushD], by simp only [List.take_zero]; exact HI.out, by simp only [List.take_zero]; exact Led.refl (HF0.out w2 D5.out)⟩
  case round =>
    obtain ⟨k, hk, rfl, rfl, hi, F3, h3, g3, q3⟩ := hrel
    have lb2 := (KM.out _ _ _ wr F3 h3 (Nat.le_refl _)).2
    have G3 := Lib.hid g3
    have Q3 := Lib.hid q3
    by_cases hlt : k < L.length
    · have hlt' : (k : Int) < (L.length : Int) := by omega
      obtain ⟨b, off, c, ev, z1, z2, z3, z4, _⟩ := (SlP.fr D3.out g3 (fun b q e => by have h9 := D4.out b q; have h10 := HFL.out b e; omega)).at hlt
      simp only [Value.slice.injEq] at ev
      obtain ⟨rfl, _, rfl⟩ := ev
      have hnx := flushD_next X q.n L hlt
      have HC := Lib.hid (KC.out _ _ L[k].1 wr F3 h3 hi (by omega))
      have hi2 := KI.out _ L[k].1 hi
      generalize L[k] = pg at *
      obtain ⟨fk, fv⟩ := pg
      dsimp only at *
      generalize X.flushD q.n (L.take k) = Y at *
      have HNX := Lib.hid hnx
      have HI2 := Lib.hid hi2
      clear h3 g3 q3 hnx hi hi2
      unfold maxLen at z2
      have HZ2 := Lib.hid z2
      clear z2
      go_wp2_with fail
      refine HC.out.mono ?_
      rintro e w4 ⟨rfl, h4⟩
      have H4 := Lib.hid (Led.trans (R := fun _ _ => True) G3.out Q3.out h4)
      clear h4 HC
      by_cases hz : (Y.2.flush q.n fk).1 = 0
      · have hz' : ((((Y.2.flush q.n fk).1 : Nat) : Int) == 0) = true := by simp [hz]
        have hz2 : ((((Y.2.flush q.n fk).1 : Nat) : Int) != 0) = false := by simp [hz]
        have hz3 : (((Y.2.flush q.n fk).1 : Nat) : Int) = 0 := by omega
        go_wp2
        go_roundw
        case rel => exact ⟨k + 1, by omega, by go_num, by rw [HNX.out]; unfold flD; dsimp only; rw [if_pos hz], by rw [HNX.out]; exact HI2.out, by rw [HNX.out]; exact H4.out⟩
        case measure => simp [intOf]; omega
      · have hz' : ((((Y.2.flush q.n fk).1 : Nat) : Int) == 0) = false := by simp <;> exact hz
        go_wp2
        go_roundw
        case rel => exact ⟨k + 1, by omega, by go_num, by rw [HNX.out]; unfold flD; dsimp only; rw [if_neg hz], by rw [HNX.out]; exact HI2.out, by rw [HNX.out]; exact H4.out⟩
        case measure => simp [intOf]; omega
    · obtain rfl : k = L.length := by omega
      rw [List.take_length] at h3
      have H3 := Lib.hid (KM.out _ _ (m + 100) wr F3 h3 (by omega)).1
      clear h3 g3 q3
      rw [List.take_length]
      go_wp2
      go_returns
      exact ⟨rfl, Led.trans (R := fun _ _ => True) (D5.out.mono (fun _ q => q.elim)) (fun i q => .inl q) ⟨F3, H3.out, G3.out, Q3.out⟩⟩
end
end Go.Proofs.YtnideelidfpicaaGreatDoor
namespace Go.Proofs.YtnideelidfpicaaGreatDoor
open Go.RowKit Go.Maps
set_option linter.unusedVariables false
set_option linter.unusedSimpArgs false
set_option linter.unusedSectionVars false
set_option maxRecDepth 100000
def cmpZ (x y : Int) : Int := if x < y then -1 else if y < x then 1 else 0
theorem nanU (z : Nat) (w : World) : Calls Tryz.prog 104 #[.int .u32 z] w fun e w' => e = .returned (.bool false) ∧ w = w' := by
  go_enter Tryz.func104, Tryz.ntmps104
  go_wp2
  go_returns
  exact ⟨by simp, rfl⟩
theorem cmpU (x y : Nat) (w : World) : Calls Tryz.prog 96 #[.int .u32 x, .int .u32 y] w fun e w' => e = .returned (.int .i64 (cmpZ x y)) ∧ w = w' := by
  unfold cmpZ
  by_cases h1 : (x : Int) < y
  · rw [if_pos h1]
    go_enter Tryz.func96, Tryz.ntmps96
    go_wp2_with (go_at_call 104; refine (nanU _ _).mono ?_; rintro e w' ⟨rfl, rfl⟩)
    go_returns
    exact ⟨rfl, rfl⟩
  · rw [if_neg h1]
    have h1' : (y : Int) ≤ x := by omega
    by_cases h2 : (y : Int) < x
    · rw [if_pos h2]
      go_enter Tryz.func96, Tryz.ntmps96
      go_wp2_with (go_at_call 104; refine (nanU _ _).mono ?_; rintro e w' ⟨rfl, rfl⟩)
      go_returns
      exact ⟨rfl, rfl⟩
    · rw [if_neg h2]
      have h2' : (x : Int) ≤ y := by omega
      go_enter Tryz.func96, Tryz.ntmps96
      go_wp2_with (go_at_call 104; refine (nanU _ _).mono ?_; rintro e w' ⟨rfl, rfl⟩)
      go_returns
      exact ⟨rfl, rfl⟩
/-- The dirty frames among the first k. -/
def dirL (f : Nat → FrS) (k : Nat) : List Nat := (List.range k).filter fun i => (f i).dirty
theorem dirL_next (f : Nat → FrS) (k : Nat) : dirL f (k + 1) = if (f k).dirty = true then dirL f k ++ [k] else dirL f k := by
  unfold dirL
  rw [List.range_succ, List.filter_append]
  cases h : (f k).dirty <;> simp [h]
theorem dirL_le (f : Nat → FrS) (k : Nat) : (dirL f k).length ≤ k := by
  have := List.length_filter_le (fun i => (f i).dirty) (List.range k)
  rwa [List.length_range] at this
theorem dirL_mem {f : Nat → FrS} {k x : Nat} : x ∈ dirL f k ↔ x < k ∧ (f x).dirty = true := by
  unfold dirL; simp
section
variable {w w' : World} {p : PP} {f : Nat → FrS} {pl : Nat → Option Int} {E I : Nat → Bool} {sc m : Nat}
set_option maxHeartbeats 2000000 in
/-- How two dirty frames stand to one another. -/
theorem dcmp_calls (H : MP w p f pl E I sc m) {b x y : Nat} (hx : x < p.n) (hy : y < p.n) (hb : w.cell? ⟨b, 0, none⟩ = some p.ptr) (hbl : b < w.heap.size) : Calls Tryz.prog 95 #[.int .i64 x, .int .i64 y, .pointer (some ⟨b, 0, none⟩)] w fun e w' => e = .returned (.int .i64 (cmpZ (f x).id (f y).id)) ∧ ∃ q, w' = w.drewN q := by
  have c2 : w.cell? ⟨p.pb, 2, none⟩ = some (.slice (some ⟨p.fb, 0, none⟩) p.n p.n) := H.ce 2 (by omega)
  have lb := H.hd.lt
  have lf := H.fr.lt
  have hn := H.hn
  have cx := (H.cf hx).1
  have cy := (H.cf hy).1
  have HC := Lib.hid (fun d => cmpU (f x).id (f y).id (w.drewN d))
  have hxi : (x : Int) < (p.n : Int) := by omega
  have hyi : (y : Int) < (p.n : Int) := by omega
  generalize (f x).id = xi at *
  generalize (f y).id = yi at *
  generalize cmpZ xi yi = r at *
  unfold PP.ptr at hb
  clear H
  go_enter Tryz.func95, Tryz.ntmps95
  go_wp2_with fail
  go_quiet ((go_at_call 96; exact qs (HC.out _)))
  go_wp2
  go_returns
  exact ⟨rfl, _, rfl⟩
/-- What is asked of the sort. -/
def SortsBy (p : PP) (f : Nat → FrS) (bx base : Nat) : Prop := ∀ (W : World) (v : Value) (l : List Nat), OwK .i64 base 3 W v l → bx < base → (∀ x ∈ l, x < p.n) → l.length ≤ 65535 → W.cell? ⟨bx, 0, none⟩ = some p.ptr → bx < W.heap.size → (∃ pl E I sc m, MP W p f pl E I sc m) → (∀ i, p.own i → i < base) → 0 < base →
  Calls Tryz.prog 94 #[v, .func (.func 95) #[] #[.pointer (some ⟨bx, 0, none⟩)]] W fun e w' => e = .returned (.tuple #[]) ∧ ∃ l' : List Nat, l'.Perm l ∧ (∀ i j (hi : i < l'.length) (hj : j < l'.length), i < j → ¬ (f l'[j]).id < (f l'[i]).id) ∧ SlK .i64 w' v l' ∧ Fr (fun i => v.ownBlock = some i) W w'
set_option maxHeartbeats 4000000 in
theorem dirty_calls (H : MP w p f pl E I sc m) (hs : SortsBy p f w.heap.size (w.heap.size + 1)) : Calls Tryz.prog 68 #[p.ptr] w fun e w' => ∃ v l', e = .returned v ∧ l'.Perm (dirL f p.n) ∧ (∀ i j (hi : i < l'.length) (hj : j < l'.length), i < j → ¬ (f l'[j]).id < (f l'[i]).id) ∧ SlK .i64 w' v l' ∧ (∀ i, v.ownBlock = some i → w.heap.size ≤ i) ∧ Fr NoF w w' := by
  obtain ⟨b1, b2, b3⟩ := box1 w p.ptr 30
  have H1 := H.fr0 b3
  have hlt := H.lt
  have htb := Lib.hid H.tab.lt
  have hn := H1.hn
  have KX : Hid (∀ wr, Fr NoF (w.alloc (.cells #[p.ptr] 30)) wr → wr.cell? ⟨w.heap.size, 0, none⟩ = some p.ptr ∧ w.heap.size < wr.heap.size ∧ wr.cell? ⟨p.pb, 2, none⟩ = some (.slice (some ⟨p.fb, 0, none⟩) p.n p.n) ∧ p.pb < wr.heap.size ∧ p.fb < wr.heap.size ∧ MP wr p f pl E I sc m) := fun wr g => by
    have h := H1.fr0 g
    have hz := g.size
    exact ⟨by rw [g.cell (p := ⟨w.heap.size, 0, none⟩) (by show w.heap.size < _; omega) (fun q => q)]; exact b1, by omega, h.ce 2 (by omega), h.hd.lt, h.fr.lt, h⟩
  have KD : Hid (∀ wr k, Fr NoF (w.alloc (.cells #[p.ptr] 30)) wr → k < p.n → wr.cell? ⟨p.fb, k * 4 + 3, none⟩ = some (.bool (f k).dirty)) := fun wr k g hk => ((H1.fr0 g).cf hk).2.2.2
  have HSO := Lib.hid hs
  have HLT := Lib.hid hlt
  have B3 := Lib.hid b3
  have hbs := b2
  generalize hw2 : (w.alloc (.cells #[p.ptr] 30)) = w2 at *
  clear H H1 hs hlt b1 b2 b3
  obtain ⟨x1, x2, x3, x4, x5, _⟩ := KX.out w2 (Fr.refl _ _)
  unfold PP.ptr at x1 hw2
  unfold PP.ptr
  go_enter Tryz.func68, Tryz.ntmps68
  go_wp2_with fail
  try rw [hw2]
  clear hw2
  go_loopw [3, 10] (fun o i wr => ∃ k : Nat, k ≤ p.n ∧ i = .int .i64 k ∧ OwK .i64 (w.heap.size + 1) 3 wr o (dirL f k) ∧ Fr NoF w2 wr) (fun _ i _ => p.n - (intOf i).toNat)
  case atStart => exact ⟨0, Nat.zero_le _, rfl, OwK.nil _ _ _ _, Fr.refl _ _⟩
  case round =>
    obtain ⟨k, hk, rfl, ho, hf⟩ := hrel
    obtain ⟨y1, y2, y3, y4, y5, y6⟩ := KX.out wr hf
    unfold PP.ptr at y1
    have HO := Lib.hid ho
    have HF := Lib.hid hf
    have HY6 := Lib.hid y6
    have hsz := hf.size
    clear y6
    by_cases hlt : k < p.n
    · have cd := KD.out wr k hf hlt
      have hN := dirL_next f k
      have hL := dirL_le f k
      have hlt' : (k : Int) < (p.n : Int) := by omega
      cases hd : (f k).dirty with
      | false =>
        rw [hd] at cd hN
        rw [if_neg (by simp)] at hN
        have HN := Lib.hid hN
        clear hN ho hf hL
        go_wp2
        go_roundw
        case rel => exact ⟨k + 1, by omega, by go_num, by rw [HN.out]; exact HO.out, HF.out⟩
        case measure => simp [intOf]; omega
      | true =>
        rw [hd] at cd hN
        rw [if_pos rfl] at hN
        have HN := Lib.hid hN
        clear hN ho hf
        generalize dirL f k = l at *
        go_wp2_with (at_builtin; go_must (refine appLB (base := w.heap.size + 1) EIi rfl _ _ rfl (by rfl) (by rfl) (by simp; omega) (own_keep HO.out ((Fr.refl NoF _).alloc _) (fun _ _ q => q)) (SlC.ofOwn (own_new (w0 := wr) (Nat.le_refl _) #[.int .i64 k] 3 1 1 _ rfl rfl (by unfold maxLen; omega)) (by simp [Value.oneCell'])) (by unfold maxLen; omega) (by omega) ?_); intro v' w5 hown' hf' _; have HF' := Lib.hid hf'; have HO' := Lib.hid hown'; clear hown' hf')
        go_roundw
        case rel =>
          refine ⟨k + 1, by omega, by go_num, ?_, ?_⟩
          · rw [HN.out]; exact OwK.snoc HO'.out
          · refine (HF.out.alloc _).trans HF'.out (fun i hi => .inr ?_)
            have := HO.out.base i hi
            omega
        case measure => simp [intOf]; omega
    · obtain rfl : k = p.n := by omega
      have hL := dirL_le f p.n
      have HC := Lib.hid (HSO.out wr _ (dirL f p.n) ho (by omega) (fun x hx => (dirL_mem.1 hx).1) (by omega) y1 y2 ⟨pl, E, I, sc, m, HY6.out⟩ (fun i q => by have := HLT.out i q; omega) (by have := htb.out; omega))
      have hbase := ho.base
      have HB := Lib.hid hbase
      clear ho hf hbase
      go_wp2_with fail
      refine HC.out.mono ?_
      rintro e w5 ⟨rfl, l', p1, p2, p3, p4⟩
      have P1 := Lib.hid p1
      have P2 := Lib.hid p2
      have P3 := Lib.hid p3
      have P4 := Lib.hid p4
      clear p1 p2 p3 p4 HC
      go_wp2
      go_returns
      exact ⟨_, l', rfl, P1.out, P2.out, P3.out, fun i q => by have := HB.out i q; omega, (B3.out.trans HF.out (fun _ q => q.elim)).trans P4.out (fun i q => .inr (by have := HB.out i q; omega))⟩
end
end Go.Proofs.YtnideelidfpicaaGreatDoor
namespace Go.Proofs.YtnideelidfpicaaGreatDoor
open Go.RowKit Go.Maps
set_option linter.unusedVariables false
set_option linter.unusedSimpArgs false
set_option linter.unusedSectionVars false
set_option maxRecDepth 100000
/-- Frames are made clean, one behind the other; what is answered. -/
def flF {τ : Type} (ax : Nat × PS τ) (k : Nat) : Nat × PS τ := (if (ax.2.clean k).1 = 0 then ax.1 else 7, (ax.2.clean k).2)
def PS.flushL {τ : Type} (X : PS τ) (l : List Nat) : Nat × PS τ := l.foldl flF (0, X)
theorem flushL_next {τ : Type} (X : PS τ) (l : List Nat) {k : Nat} (hk : k < l.length) : X.flushL (l.take (k + 1)) = flF (X.flushL (l.take k)) l[k] := by
  unfold PS.flushL
  rw [List.take_succ_eq_append_getElem hk, List.foldl_append]
  rfl
section
variable {τ : Type} {P : Adv τ} {RR : World → τ → (Nat → Prop) → Prop} {ok : Nat → τ → (Nat → Nat) → (Nat → Bool) → Prop} {p : PP} (S : RepSys P RR p.pb p.rv p.n ok) {w w' : World} {m : Nat} {F : Nat → Prop} {X : PS τ} {T : PT τ}
include S
set_option maxHeartbeats 4000000 in
theorem fa_calls (H : PW RR ok p X m w F) (hm : m < 60000) (hn : p.n ≤ 64) (hs : SortsBy p X.f w.heap.size (w.heap.size + 1)) : Calls Tryz.prog 35 #[p.ptr] w fun e w' => ∃ l' : List Nat, l'.Perm (dirL X.f p.n) ∧ (∀ i j (hi : i < l'.length) (hj : j < l'.length), i < j → ¬ (X.f l'[j]).id < (X.f l'[i]).id) ∧ e = .returned (.int .i64 (X.flushL l').1) ∧ Led (PW RR ok p (X.flushL l').2 (m + 100)) F w w' := by
  have HD := Lib.hid (dirty_calls H.1.me hs)
  have HF0 : Hid (∀ w2, Fr NoF w w2 → PW RR ok p X m w2 F) := fun w2 g => H.fr0 S g
  have KC : Hid (∀ (Y : PS τ) j k w2 F2, PW RR ok p Y j w2 F2 → j < 65000 → k < p.n → Calls Tryz.prog 66 #[p.ptr, .int .i64 k] w2 fun e w' => e = .returned (.int .i64 (Y.clean k).1) ∧ Led (PW RR ok p (Y.clean k).2 (j + 1)) F2 w2 w') := fun Y j k w2 F2 h hj hk =>
    clean_pw S h (by omega) hk (fun hd q => by rw [h.2.1.em k hk q] at hd; cases hd)
  have KM : Hid (∀ (Y : PS τ) j k w2 F2, PW RR ok p Y j w2 F2 → j ≤ k → PW RR ok p Y k w2 F2) := fun Y j k w2 F2 h hj => h.more S hj
  have hFl := H.1.lt S
  have HFL := Lib.hid hFl
  have HX := Lib.hid (show CT p.n X = CT p.n X from rfl)
  rw [show (CT p.n X).f = X.f from rfl] at HD
  unfold PP.ptr at *
  clear H S hs hFl
  go_enter Tryz.func35, Tryz.ntmps35
  go_wp2_with fail
  refine HD.out.mono ?_
  rintro e w2 ⟨v, l, rfl, d1, d2, d3, d4, d5⟩
  obtain ⟨sa, sc, rfl, s1, s2⟩ := SlK.shape d3
  have hlen : l.length ≤ p.n := by rw [d1.length_eq]; exact dirL_le _ _
  have D1 := Lib.hid d1
  have D2 := Lib.hid d2
  have D3 := Lib.hid d3
  have D4 := Lib.hid d4
  have D5 := Lib.hid d5
  have HSC := Lib.hid s2
  have HMEM : Hid (∀ x ∈ l, x < p.n) := fun x hx => (dirL_mem.1 (d1.mem_iff.1 hx)).1
  clear d1 d2 d3 d4 d5 HD s2
  go_wp2_with fail
  go_loopw [3, 11] (fun o i wr => ∃ k : Nat, k ≤ l.length ∧ i = .int .i64 k ∧ o = .int .i64 (X.flushL (l.take k)).1 ∧ Led (PW RR ok p (X.flushL (l.take k)).2 (m + k)) F w2 wr) (fun _ i _ => l.length - (intOf i).toNat)
  case atStart => exact ⟨0, Nat.zero_le _, rfl, by simp [PS.flushL], by simp only [List.take_zero]; exact Led.refl (HF0.out w2 D5.out)⟩
  case round =>
    obtain ⟨k, hk, rfl, rfl, F3, h3, g3, q3⟩ := hrel
    have lb := h3.1.me.hd.lt
    have G3 := Lib.hid g3
    have Q3 := Lib.hid q3
    by_cases hlt : k < l.length
    · have hlt' : (k : Int) < (l.length : Int) := by omega
      obtain ⟨b, off, c, ev, z1, z2, z3, z4⟩ := (SlK.fr D3.out g3 (fun b q e => by have h9 := D4.out b q; have h10 := HFL.out b e; omega)).at hlt
      simp only [Value.slice.injEq] at ev
      obtain ⟨rfl, _, rfl⟩ := ev
      have hnx := flushL_next X l hlt
      have HC := Lib.hid (KC.out _ _ l[k] wr F3 h3 (by omega) (HMEM.out _ (List.getElem_mem hlt)))
      generalize l[k] = fk at *
      generalize X.flushL (l.take k) = Y at *
      have HNX := Lib.hid hnx
      clear h3 g3 q3 hnx
      unfold maxLen at z2
      have HZ2 := Lib.hid z2
      clear z2
      go_wp2_with fail
      refine HC.out.mono ?_
      rintro e w4 ⟨rfl, h4⟩
      have H4 := Lib.hid (Led.trans (R := fun _ _ => True) G3.out Q3.out h4)
      clear h4 HC
      by_cases hz : (Y.2.clean fk).1 = 0
      · have hz' : ((((Y.2.clean fk).1 : Nat) : Int) == 0) = true := by simp [hz]
        have hz2 : ((((Y.2.clean fk).1 : Nat) : Int) != 0) = false := by simp [hz]
        have hz3 : (((Y.2.clean fk).1 : Nat) : Int) = 0 := by omega
        go_wp2
        go_roundw
        case rel => exact ⟨k + 1, by omega, by go_num, by rw [HNX.out]; unfold flF; dsimp only; rw [if_pos hz], by rw [HNX.out]; exact H4.out⟩
        case measure => simp [intOf]; omega
      · have hz' : ((((Y.2.clean fk).1 : Nat) : Int) == 0) = false := by simp <;> exact hz
        go_wp2
        go_roundw
        case rel => exact ⟨k + 1, by omega, by go_num, by rw [HNX.out]; unfold flF; dsimp only; rw [if_neg hz]; rfl, by rw [HNX.out]; exact H4.out⟩
        case measure => simp [intOf]; omega
    · obtain rfl : k = l.length := by omega
      rw [List.take_length] at h3
      have H3 := Lib.hid (KM.out _ _ (m + 100) wr F3 h3 (by omega))
      clear h3 g3 q3
      rw [List.take_length]
      go_wp2
      go_returns
      exact ⟨l, D1.out, D2.out, rfl, Led.trans (R := fun _ _ => True) (D5.out.mono (fun _ q => q.elim)) (fun i q => .inl q) ⟨F3, H3.out, G3.out, Q3.out⟩⟩
end
end Go.Proofs.YtnideelidfpicaaGreatDoor
namespace Go.Proofs.YtnideelidfpicaaGreatDoor
open Go.RowKit Go.Maps
set_option linter.unusedVariables false
theorem RS.write_err {r : RS} {id v : Nat} (h : r.has id = true) : (r.write id v).1 = 0 ∨ (r.write id v).1 = 7 := by
  unfold RS.has at h
  unfold RS.write
  cases e : atP r.L id with
  | none => rw [e] at h; cases h
  | some k =>
    dsimp only
    split
    · exact .inr rfl
    · split
      · exact .inr rfl
      · exact .inl rfl
def pickF (n : Nat) (f : Nat → FrS) (p : Nat × Nat) : Option Nat := match frm n f p.1 with | some k => if (f k).dirty = true then some k else none | none => none
theorem frm_ids {n : Nat} {f g : Nat → FrS} (h : ∀ i, (g i).id = (f i).id) (id : Nat) : frm n g id = frm n f id := by
  rw [frm_fst, frm_fst]; simp only [h]
theorem clean_f {τ : Type} (X : PS τ) (k : Nat) : (∀ i, ((X.clean k).2.f i).id = (X.f i).id) ∧ (∀ i, ¬ i = k → (X.clean k).2.f i = X.f i) ∧ (∀ x, (X.clean k).2.D.has x = X.D.has x) := by
  unfold PS.clean
  by_cases hd : (X.f k).dirty = true
  · rw [if_pos hd]
    by_cases hw : (X.D.write (X.f k).id (X.f k).val).1 = 0
    · rw [if_pos hw]
      refine ⟨fun i => ?_, fun i hi => upd_other _ _ hi, fun x => RS.write_has _ _ _ _⟩
      by_cases e : i = k
      · rw [e]; show (upd X.f k _ k).id = _; rw [upd_same]
      · show (upd X.f k _ i).id = _; rw [upd_other _ _ e]
    · rw [if_neg hw]; exact ⟨fun i => rfl, fun i hi => rfl, fun x => RS.write_has _ _ _ _⟩
  · rw [if_neg hd]; exact ⟨fun i => rfl, fun i _ => rfl, fun x => rfl⟩
theorem fm_congr {α β : Type} {f g : α → Option β} : ∀ (l : List α), (∀ x ∈ l, f x = g x) → l.filterMap f = l.filterMap g
  | [], _ => rfl
  | x :: l, h => by rw [List.filterMap_cons, List.filterMap_cons, h x (List.mem_cons_self ..), fm_congr l (fun y hy => h y (List.mem_cons_of_mem _ hy))]
theorem flush_fold {τ : Type} (n : Nat) : ∀ (L : List (Nat × Nat)) (a : Nat) (S : PS τ), (∀ p ∈ L, S.D.has p.1 = true) → L.Pairwise (fun p q => p.1 < q.1) → L.foldl (flD n) (a, S) = (L.filterMap (pickF n S.f)).foldl flF (a, S) := by
  intro L
  induction L with
  | nil => intros; rfl
  | cons p L ih =>
    intro a S hh hp
    rw [List.pairwise_cons] at hp
    have h1 := hh p (List.mem_cons_self ..)
    have h2 : ∀ q ∈ L, S.D.has q.1 = true := fun q hq => hh q (List.mem_cons_of_mem _ hq)
    rw [List.foldl_cons]
    have hflush : S.flush n p.1 = match frm n S.f p.1 with | some k => S.clean k | none => (0, S) := by
      unfold PS.flush; rw [if_pos h1]; cases frm n S.f p.1 <;> rfl
    cases hk : frm n S.f p.1 with
    | none =>
      rw [hk] at hflush
      have e1 : flD n (a, S) p = (a, S) := by unfold flD; dsimp only; rw [hflush]; rfl
      have e2 : pickF n S.f p = none := by unfold pickF; rw [hk]
      rw [e1, List.filterMap_cons_none e2]
      exact ih a S h2 hp.2
    | some k =>
      rw [hk] at hflush
      obtain ⟨k1, k2⟩ := frm_some hk
      by_cases hd : (S.f k).dirty = true
      · have e2 : pickF n S.f p = some k := by unfold pickF; rw [hk]; exact if_pos hd
        have hc : (S.clean k).1 = 0 ∨ (S.clean k).1 = 7 := by
          unfold PS.clean
          rw [if_pos hd]
          have := RS.write_err (r := S.D) (id := (S.f k).id) (v := (S.f k).val) (by rw [k2]; exact h1)
          by_cases hw : (S.D.write (S.f k).id (S.f k).val).1 = 0
          · rw [if_pos hw]; exact .inl rfl
          · rw [if_neg hw]; exact .inr (this.resolve_left hw)
        have e1 : flD n (a, S) p = flF (a, S) k := by
          unfold flD flF
          dsimp only
          rw [hflush]
          dsimp only
          rcases hc with h | h
          · rw [if_pos h, if_pos h]
          · rw [if_neg (by omega), if_neg (by omega), h]
        obtain ⟨c1, c2, c3⟩ := clean_f S k
        rw [e1, List.filterMap_cons_some e2, List.foldl_cons]
        have e3 : flF (a, S) k = ((flF (a, S) k).1, (S.clean k).2) := rfl
        rw [e3, ih _ _ (fun q hq => by rw [c3]; exact h2 q hq) hp.2]
        have e4 : L.filterMap (pickF n (S.clean k).2.f) = L.filterMap (pickF n S.f) := fm_congr _ fun q hq => by
          unfold pickF
          rw [frm_ids c1]
          cases hj : frm n S.f q.1 with
          | none => rfl
          | some j =>
            obtain ⟨_, j2⟩ := frm_some hj
            have hne : ¬ j = k := fun e => by have := hp.1 q hq; rw [← j2, e, k2] at this; omega
            dsimp only
            rw [c2 j hne]
        rw [e4]
      · have e2 : pickF n S.f p = none := by unfold pickF; rw [hk]; exact if_neg hd
        have hcl : S.clean k = (0, S) := by unfold PS.clean; exact if_neg hd
        have hf2 : S.flush n p.1 = (0, S) := hflush.trans hcl
        have e1 : flD n (a, S) p = (a, S) := by
          unfold flD
          dsimp only
          rw [hf2]
          rfl
        rw [e1, List.filterMap_cons_none e2]
        exact ih a S h2 hp.2
theorem pages_rise {n : Nat} {f : Nat → FrS} {D : RS} (hI : Inv n f D) : D.L.Pairwise (fun p q => p.1 < q.1) := by
  obtain ⟨s, hs⟩ := hI.dr
  rw [hs.L]
  unfold plL plR
  rw [List.pairwise_map]
  exact (List.Pairwise.filter _ List.pairwise_lt_range').imp (fun h => by dsimp only; omega)
theorem dirty_pos {n : Nat} {f : Nat → FrS} {D : RS} (hI : Inv n f D) {k : Nat} (hk : k < n) (hd : (f k).dirty = true) : ¬ (f k).id = 0 := fun e => by
  rw [hI.em k hk e] at hd; cases hd
theorem flush_both {τ : Type} {X : PS τ} {n : Nat} (hI : Inv n X.f X.D) {l' : List Nat} (hp : l'.Perm (dirL X.f n)) (hs : ∀ i j (hi : i < l'.length) (hj : j < l'.length), i < j → ¬ (X.f l'[j]).id < (X.f l'[i]).id) : X.flushL l' = X.flushD n X.D.L := by
  have hin : ∀ p ∈ X.D.L, X.D.has p.1 = true := fun p h => (RS.has_iff _ _).2 (List.mem_map.2 ⟨p, h, rfl⟩)
  have hr := pages_rise hI
  unfold PS.flushL PS.flushD
  rw [flush_fold n X.D.L 0 X hin hr]
  congr 1
  have hnd : (dirL X.f n).Nodup := List.nodup_range.filter _
  have nd' : l'.Nodup := (hp.nodup_iff).2 hnd
  have hm : ∀ x, x ∈ l' ↔ x < n ∧ (X.f x).dirty = true := fun x => by rw [hp.mem_iff, dirL_mem]
  have ps1 : l'.Pairwise (fun a b => (X.f a).id < (X.f b).id) := List.pairwise_iff_getElem.2 fun i j hi hj hij => by
    have h1 := hs i j hi hj hij
    obtain ⟨hx, hx2⟩ := (hm _).1 (List.getElem_mem hi)
    obtain ⟨hy, _⟩ := (hm _).1 (List.getElem_mem hj)
    have hne : l'[i] ≠ l'[j] := List.pairwise_iff_getElem.1 nd' i j hi hj hij
    have h0 := dirty_pos hI hx hx2
    rcases Nat.lt_trichotomy (X.f l'[i]).id (X.f l'[j]).id with h | h | h
    · exact h
    · exact absurd (hI.inj _ _ hx hy h0 h) hne
    · exact absurd h h1
  have pk : ∀ (p : Nat × Nat) k, pickF n X.f p = some k → k < n ∧ (X.f k).id = p.1 ∧ (X.f k).dirty = true := fun p k h => by
    unfold pickF at h
    cases hk : frm n X.f p.1 with
    | none => rw [hk] at h; cases h
    | some j =>
      rw [hk] at h
      dsimp only at h
      by_cases hd : (X.f j).dirty = true
      · rw [if_pos hd] at h
        cases h
        exact ⟨(frm_some hk).1, (frm_some hk).2, hd⟩
      · rw [if_neg hd] at h; cases h
  have ps2 : (X.D.L.filterMap (pickF n X.f)).Pairwise (fun a b => (X.f a).id < (X.f b).id) := hr.filterMap _ (fun a a' h b hb b' hb' => by rw [(pk _ _ hb).2.1, (pk _ _ hb').2.1]; exact h)
  have hm2 : ∀ x, x ∈ X.D.L.filterMap (pickF n X.f) ↔ x < n ∧ (X.f x).dirty = true := fun x => by
    rw [List.mem_filterMap]
    constructor
    · rintro ⟨p, _, h⟩
      exact ⟨(pk p x h).1, (pk p x h).2.2⟩
    · rintro ⟨h1, h2⟩
      have h0 := dirty_pos hI h1 h2
      obtain ⟨p, hp1, hp2⟩ := List.mem_map.1 ((RS.has_iff _ _).1 (hI.has x h1 h0))
      refine ⟨p, hp1, ?_⟩
      unfold pickF
      rw [hI.atf h1 hp2.symm (by rw [hp2]; exact h0)]
      exact if_pos h2
  have nd2 : (X.D.L.filterMap (pickF n X.f)).Nodup := ps2.imp (fun h e => by rw [e] at h; omega)
  exact List.Perm.eq_of_pairwise (fun a b _ _ h1 h2 => by omega) ps1 ps2 ((List.perm_ext_iff_of_nodup nd' nd2).2 (fun x => (hm x).trans (hm2 x).symm))
end Go.Proofs.YtnideelidfpicaaGreatDoor
namespace Go.Proofs.YtnideelidfpicaaGreatDoor
open Go.RowKit Go.Maps Go.Shelf Go.Lib
open Go.Sort hiding Below
set_option linter.unusedVariables false
set_option linter.unusedSimpArgs false
set_option linter.unusedSectionVars false
def Tryz.sortIn_ren : Go.Shelf.Ren := ⟨fun | 6 => 94 | 15 => 103 | 14 => 102 | 28 => 114 | 29 => 115 | 20 => 106 | 21 => 107 | 22 => 108 | 23 => 109 | 24 => 110 | 25 => 111 | 26 => 112 | 27 => 113 | 46 => 116 | 47 => 117 | 48 => 118 | 49 => 119 | 50 => 120 | 57 => 121 | n => n, fun | 22 => 23 | 24 => 3 | 25 => 129 | 3 => 3 | 39 => 141 | 0 => 0 | 53 => 43 | 55 => 24 | 4 => 4 | 46 => 146 | 45 => 145 | 50 => 116 | 5 => 5 | 9 => 9 | 66 => 151 | 70 => 155 | 76 => 157 | 77 => 105 | n => n, fun | n => n⟩
theorem Tryz.sortIn : Go.Proofs.SlLaysF.n6 Tryz.prog Tryz.sortIn_ren := {
  mixed := by kernel_rfl,
  f6 := ⟨Tryz.f94.name, by decide, Tryz.func94.trans (congrArg some (by kernel_rfl))⟩,
  f14 := ⟨Tryz.f102.name, by decide, Tryz.func102.trans (congrArg some (by kernel_rfl))⟩,
  f15 := Tryz.func103.trans (congrArg some (by kernel_rfl)),
  f20 := ⟨Tryz.f106.name, by decide, Tryz.func106.trans (congrArg some (by kernel_rfl))⟩,
  f21 := ⟨Tryz.f107.name, by decide, Tryz.func107.trans (congrArg some (by kernel_rfl))⟩,
  f22 := ⟨Tryz.f108.name, by decide, Tryz.func108.trans (congrArg some (by kernel_rfl))⟩,
  f23 := ⟨Tryz.f109.name, by decide, Tryz.func109.trans (congrArg some (by kernel_rfl))⟩,
  f24 := ⟨Tryz.f110.name, by decide, Tryz.func110.trans (congrArg some (by kernel_rfl))⟩,
  f25 := ⟨Tryz.f111.name, by decide, Tryz.func111.trans (congrArg some (by kernel_rfl))⟩,
  f26 := ⟨Tryz.f112.name, by decide, Tryz.func112.trans (congrArg some (by kernel_rfl))⟩,
  f27 := ⟨Tryz.f113.name, by decide, Tryz.func113.trans (congrArg some (by kernel_rfl))⟩,
  f28 := Tryz.func114.trans (congrArg some (by kernel_rfl)),
  f29 := Tryz.func115.trans (congrArg some (by kernel_rfl)),
  f46 := ⟨Tryz.f116.name, by decide, Tryz.func116.trans (congrArg some (by kernel_rfl))⟩,
  f47 := Tryz.func117.trans (congrArg some (by kernel_rfl)),
  f48 := Tryz.func118.trans (congrArg some (by kernel_rfl)),
  f49 := ⟨Tryz.f119.name, by decide, Tryz.func119.trans (congrArg some (by kernel_rfl))⟩,
  f50 := ⟨Tryz.f120.name, by decide, Tryz.func120.trans (congrArg some (by kernel_rfl))⟩,
  f57 := ⟨Tryz.f121.name, by decide, Tryz.func121.trans (congrArg some (by kernel_rfl))⟩,
  t0 := Tryz.underlying0,
  a0 := Tryz.isAgg0,
  z0 := Tryz.sizeOf0,
  v0 := Tryz.zeroValue0,
  t3 := Tryz.underlying3,
  a3 := Tryz.isAgg3,
  z3 := Tryz.sizeOf3,
  v3 := Tryz.zeroValue3,
  t4 := Tryz.underlying4,
  a4 := Tryz.isAgg4,
  z4 := Tryz.sizeOf4,
  v4 := Tryz.zeroValue4,
  t5 := Tryz.underlying5,
  a5 := Tryz.isAgg5,
  z5 := Tryz.sizeOf5,
  v5 := Tryz.zeroValue5,
  t9 := Tryz.underlying9,
  a9 := Tryz.isAgg9,
  z9 := Tryz.sizeOf9,
  v9 := Tryz.zeroValue9,
  t22 := Tryz.underlying23,
  a22 := Tryz.isAgg23,
  z22 := Tryz.sizeOf23,
  v22 := Tryz.zeroValue23,
  a24 := Tryz.isAgg3,
  z24 := Tryz.sizeOf3,
  t25 := Tryz.underlying129,
  a25 := Tryz.isAgg129,
  z25 := Tryz.sizeOf129,
  v25 := Tryz.zeroValue129,
  t39 := Tryz.underlying141,
  a39 := Tryz.isAgg141,
  z39 := Tryz.sizeOf141,
  v39 := Tryz.zeroValue141,
  t45 := Tryz.underlying145,
  a45 := Tryz.isAgg145,
  z45 := Tryz.sizeOf145,
  v45 := Tryz.zeroValue145,
  t46 := Tryz.underlying146,
  a46 := Tryz.isAgg146,
  z46 := Tryz.sizeOf146,
  v46 := Tryz.zeroValue146,
  t50 := Tryz.underlying116,
  a50 := Tryz.isAgg116,
  z50 := Tryz.sizeOf116,
  v50 := Tryz.zeroValue116,
  t53 := Tryz.underlying43,
  a53 := Tryz.isAgg43,
  z53 := Tryz.sizeOf43,
  v53 := Tryz.zeroValue43,
  t55 := Tryz.underlying24,
  a55 := Tryz.isAgg24,
  z55 := Tryz.sizeOf24,
  v55 := Tryz.zeroValue24,
  t66 := Tryz.underlying151,
  a66 := Tryz.isAgg151,
  z66 := Tryz.sizeOf151,
  v66 := Tryz.zeroValue151,
  t70 := Tryz.underlying155,
  a70 := Tryz.isAgg155,
  z70 := Tryz.sizeOf155,
  v70 := Tryz.zeroValue155,
  t76 := Tryz.underlying157,
  a76 := Tryz.isAgg157,
  z76 := Tryz.sizeOf157,
  v76 := Tryz.zeroValue157,
  t77 := Tryz.underlying105,
  a77 := Tryz.isAgg105,
  z77 := Tryz.sizeOf105,
  v77 := Tryz.zeroValue105 }
def finL {n : Nat} : (l : List Nat) → (∀ x ∈ l, x < n) → List (Fin n)
  | [], _ => []
  | x :: l, h => ⟨x, h x (List.mem_cons_self ..)⟩ :: finL l (fun y hy => h y (List.mem_cons_of_mem _ hy))
theorem finL_val {n : Nat} : ∀ (l : List Nat) (h : ∀ x ∈ l, x < n), (finL l h).map (fun x => x.val) = l
  | [], _ => rfl
  | x :: l, h => by
    show x :: (finL l _).map _ = x :: l
    rw [finL_val l]
theorem finL_len {n : Nat} (l : List Nat) (h : ∀ x ∈ l, x < n) : (finL l h).length = l.length := by
  have := congrArg List.length (finL_val l h)
  rwa [List.length_map] at this
def encF {n : Nat} (x : Fin n) : Value := .int .i64 (x.val : Int)
theorem oneF {n : Nat} : OneCell (encF (n := n)) := fun x => rfl
section
variable {W W' : World} {n : Nat} [Inhabited (Fin n)]
theorem fr_sortF {blk m : Nat} {d : Array (Fin n)} {os : Array Obj} : Fr (fun i => i = blk) W (sortWorld encF W blk 0 m d os) := by
  refine ⟨rfl, rfl, rfl, ?_, fun k hk hF => ?_⟩
  · show W.heap.size ≤ ((putRow encF (Go.Sort.ahead W m) blk 0 d).heap ++ os).size
    rw [Array.size_append]
    have : (putRow encF (Go.Sort.ahead W m) blk 0 d).heap.size = W.heap.size := by simp [putRow, mapBlock, Go.Sort.ahead]
    omega
  · have hz : (putRow encF (Go.Sort.ahead W m) blk 0 d).heap.size = W.heap.size := by simp [putRow, mapBlock, Go.Sort.ahead]
    have e1 : (sortWorld encF W blk 0 m d os).heap[k]? = (putRow encF (Go.Sort.ahead W m) blk 0 d).heap[k]? := by
      show ((putRow encF (Go.Sort.ahead W m) blk 0 d).heap ++ os)[k]? = _
      rw [Array.getElem?_append_left (by omega)]
    rw [e1]
    show (W.heap.modify blk _)[k]? = _
    rw [Array.getElem?_modify, if_neg (fun q => hF q.symm)]
theorem holdsF {base g cap : Nat} {l : List Nat} (hmem : ∀ x ∈ l, x < n) (h : OwK .i64 base 3 W (.slice (some ⟨g, 0, none⟩) l.length cap) l) : Holds encF W g 0 (finL l hmem).toArray := by
  intro j hj
  have hs : (finL l hmem).toArray.size = l.length := by rw [List.size_toArray, finL_len]
  have hjl : j < l.length := by omega
  obtain ⟨hl, h2⟩ := h
  rcases h2 with ⟨h2, _⟩ | ⟨g', cap', cur, e, hg, hh, h3, h4, h5, h6⟩
  · cases h2
  · simp only [Value.slice.injEq, Option.some.injEq, Addr.mk.injEq] at e
    obtain ⟨⟨rfl, _⟩, _, rfl⟩ := e
    have hc : cur[j]? = some (.int .i64 (l[j] : Nat)) := by
      have hq : (cur.toList.take (l.length * 1))[j]? = some (.int .i64 (l[j] : Nat)) := by rw [h6]; simp [hjl]
      rw [List.getElem?_take, if_pos (by omega)] at hq
      simpa using hq
    have hv : encF ((finL l hmem).toArray[j]!) = .int .i64 (l[j] : Nat) := by
      rw [getElem!_pos (finL l hmem).toArray j hj]
      unfold encF
      have e2 : ((finL l hmem).map (fun x => x.val))[j]? = l[j]? := by rw [finL_val]
      have hj2 : j < (finL l hmem).length := by rw [finL_len]; exact hjl
      rw [List.getElem?_map, List.getElem?_eq_getElem hj2, List.getElem?_eq_getElem hjl] at e2
      simp at e2
      simp [e2]
    rw [hv]
    constructor
    · simp [World.cell?, hh, hc]
    · simp [World.frozen?, hh]
end
section
variable {p : PP} {f : Nat → FrS}
theorem cmpZ_neg (x y : Nat) : cmpZ x y < 0 ↔ x < y := by
  unfold cmpZ
  split
  · constructor
    · intro _; omega
    · intro _; omega
  · split
    · constructor
      · intro q; omega
      · intro q; omega
    · constructor
      · intro q; omega
      · intro q; omega
theorem swoF (n : Nat) : SWO (ltOf fun x y : Fin n => cmpZ (f x.val).id (f y.val).id) where
  irrefl x := by unfold ltOf; rw [decide_eq_false_iff_not, cmpZ_neg]; omega
  trans x y z h1 h2 := by unfold ltOf at *; rw [decide_eq_true_eq, cmpZ_neg] at *; omega
  ntrans x y z h1 h2 := by unfold ltOf at *; rw [decide_eq_false_iff_not, cmpZ_neg] at *; omega
theorem sorts_by (bx base : Nat) : SortsBy p f bx base := by
  intro W v l ho hbx hmem hll hb hbl hM hown htb
  obtain ⟨pl, E, I, sc, m, hM⟩ := hM
  have hbase := ho.base
  have h0 := ho
  obtain ⟨hl, h2⟩ := ho
  rcases h2 with ⟨rfl, hz⟩ | ⟨g, cap, cur, rfl, hg, hh, h3, h4, h5, h6⟩
  · have hl0 : l = [] := List.length_eq_zero_iff.1 hz
    subst hl0
    have hS := AnyF.slices_SortFunc_none (P := Tryz.prog) (ρ := Tryz.sortIn_ren) { Tryz.sortIn with } none 0 (.func (.func 95) #[] #[.pointer (some ⟨bx, 0, none⟩)]) W
    change Calls Tryz.prog 94 _ _ _ at hS
    refine hS.mono ?_
    rintro e w' ⟨rfl, rfl⟩
    exact ⟨rfl, [], List.Perm.refl _, fun i j hi => absurd hi (Nat.not_lt_zero i), SlK.nil _ _, Fr.refl _ _⟩
  · have hn := hM.hn
    haveI : Inhabited (Fin p.n) := ⟨⟨0, hn.1⟩⟩
    have hH := holdsF hmem h0
    have hgl := (World.ownsRow.lt h0 g rfl).2
    have hgb := hbase g rfl
    have hsz : (finL l hmem).toArray.size = l.length := by rw [List.size_toArray, finL_len]
    have hcmp : CmpLays1 Tryz.prog 95 #[.pointer (some ⟨bx, 0, none⟩)] encF (fun x y : Fin p.n => cmpZ (f x.val).id (f y.val).id) g 0 (finL l hmem).toArray.size W := by
      intro k os dk hdk x y
      have fs : Fr (fun i => i = g) W (sortWorld encF W g 0 k dk os) := fr_sortF
      have hM2 := hM.fro fs (fun i q e => by have := hown i q; omega) (fun e => by have h9 : 0 = g := e; omega)
      have hb2 : (sortWorld encF W g 0 k dk os).cell? ⟨bx, 0, none⟩ = some p.ptr := by rw [fs.cell (p := ⟨bx, 0, none⟩) hbl (by show ¬ bx = g; omega)]; exact hb
      refine (dcmp_calls hM2 x.isLt y.isLt hb2 (Nat.lt_of_lt_of_le hbl fs.size)).mono ?_
      rintro e w' ⟨he, q, rfl⟩
      exact ⟨he, q, #[], by rw [grow_empty]⟩
    have hS := Any.slices_SortFunc Tryz.sortIn encF oneF (fun x y : Fin p.n => cmpZ (f x.val).id (f y.val).id) (swoF p.n) 95 #[.pointer (some ⟨bx, 0, none⟩)] g 0 cap (finL l hmem).toArray W (enters_of Tryz.func95 (by kernel_rfl) rfl) hcmp hH hgl (by omega)
    rw [hsz] at hS
    change Calls Tryz.prog 94 _ _ _ at hS
    refine hS.mono ?_
    rintro e w' ⟨rfl, d', k, os, ⟨p1, p2, p3⟩, hsd, rfl⟩
    have hs' : d'.size = l.length := by rw [p1, hsz]
    have hH' := holds_sortWorld encF W g 0 k (finL l hmem).toArray d' os hgl hH p1
    have e1 : (d'.extract 0 l.length).toList = d'.toList := by rw [← hs']; simp
    have e2 : ((finL l hmem).toArray.extract 0 l.length).toList = finL l hmem := by
      have := finL_len l hmem
      simp [List.take_of_length_le, this]
    rw [e1, e2] at p3
    have hp : (d'.toList.map (fun x => x.val)).Perm l := by
      have := p3.map (fun x => x.val)
      rwa [finL_val] at this
    have hlen : (d'.toList.map (fun x => x.val)).length = l.length := hp.length_eq
    have hat : ∀ i (hi : i < (d'.toList.map (fun x => x.val)).length), (d'.toList.map (fun x => x.val))[i] = (d'[i]!).val := fun i hi => by
      rw [getElem!_pos d' i (by rw [hs']; omega)]
      simp
    refine ⟨rfl, _, hp, fun i j hi hj hij => ?_, ?_, fr_sortF.mono (fun i q => by rw [q]; rfl)⟩
    · have := hsd i j (Nat.zero_le _) hij (by omega)
      unfold ltOf at this
      rw [decide_eq_false_iff_not, cmpZ_neg] at this
      rw [hat i hi, hat j hj]; exact this
    · refine ⟨some ⟨g, 0, none⟩, cap, by rw [hlen], by simp [hs'], fun u hu => ?_, by rw [hlen]; exact h3, h4, .inr ⟨g, 0, rfl, Nat.lt_of_lt_of_le hgl fr_sortF.size, fun j u hj => ?_⟩⟩
      · obtain ⟨y, _, rfl⟩ := List.mem_map.1 hu
        rfl
      · have hjl : j < d'.size := by
          have := (List.getElem?_eq_some_iff.1 hj).1
          simpa using this
        rw [(hH' j hjl).1]
        simp [hjl] at hj
        rw [← hj]
        unfold encF
        rw [getElem!_pos d' j hjl]
end
end Go.Proofs.YtnideelidfpicaaGreatDoor
namespace Go.Proofs.YtnideelidfpicaaGreatDoor
open Go.RowKit
set_option linter.unusedVariables false
set_option linter.unusedSimpArgs false
set_option linter.unusedSectionVars false
set_option maxRecDepth 100000
section
variable {w w' : World} {v : Value} {l : List Int}
set_option maxHeartbeats 1000000 in
theorem clone_ints (h : SlZ w v l) (hl : l.length ≤ 65535) : Calls Tryz.prog 25 #[v] w fun e w' => ∃ v', e = .returned v' ∧ SlZ w' v' l ∧ (∀ b, v'.ownBlock = some b → w.heap.size ≤ b) ∧ Fr NoF w w' := by
  have HH := Lib.hid h
  obtain ⟨a, cap, rfl, h1, h2⟩ := SlC.shape h
  have hone : Hid (∀ u ∈ l.map (fun x => Value.int .i64 x), u.oneCell' = true) := by
    intro u hu
    obtain ⟨j, _, rfl⟩ := List.mem_map.1 hu
    rfl
  unfold maxLen at h2
  cases a with
  | none =>
    have hz : cap = 0 := by
      obtain ⟨a', c', e, _, _, _, _, h5⟩ := h
      simp only [Value.slice.injEq] at e
      obtain ⟨rfl, _, rfl⟩ := e
      rcases h5 with ⟨_, q⟩ | ⟨_, _, q, _⟩
      · exact q
      · cases q
    subst hz
    have hn : l = [] := List.length_eq_zero_iff.1 (by omega)
    subst hn
    have hbin : ∀ W : World, (binOp .eql 23 (.slice none 0 0) (.slice none 0 0)).run Tryz.prog W = .ok (.bool true) W := fun W => by first | rfl | kernel_rfl
    clear h
    show Calls _ _ #[.slice none 0 0] _ _
    go_enter Tryz.func25, Tryz.ntmps25
    go_wp2
    go_returns
    exact ⟨_, rfl, SlC.nil _ _, fun b q => (by cases q), Fr.refl _ _⟩
  | some p =>
    have hbin : ∀ W : World, (binOp .eql 23 (.slice (some p) l.length cap) (.slice none 0 0)).run Tryz.prog W = .ok (.bool false) W := fun W => by first | rfl | kernel_rfl
    clear h
    go_enter Tryz.func25, Tryz.ntmps25
    go_wp2_with (at_builtin; go_must (refine appLB (base := w.heap.size) EIi rfl _ _ rfl (by rfl) (by rfl) (by simp) (own_new (w0 := w) (Nat.le_refl _) #[] 3 1 0 _ rfl rfl (by unfold maxLen; omega)) (SlC.keep HH.out ((Fr.refl NoF _).alloc _)) (by unfold maxLen; omega) (by omega) ?_); intro v' w2 hown' hf' hob'; have HF' := Lib.hid hf'; have HO' := Lib.hid hown'; clear hf' hown' hob')
    go_returns
    have ho := HO'.out
    rw [Nat.zero_add, List.nil_append] at ho
    exact ⟨_, rfl, SlC.ofOwn ho hone.out, own_base ho, ((Fr.refl NoF w).alloc _).trans HF'.out (fun i q => .inr (by cases q; exact Nat.le_refl _))⟩
theorem advise_calls (h : SlZ w v l) (hl : l.length ≤ 65535) : Calls Tryz.prog 7 #[v] w fun e w' => ∃ lb F, e = .returned (advV lb) ∧ AR lb w' l F ∧ (∀ i, F i → w.heap.size ≤ i) ∧ Fr NoF w w' := by
  have HC := Lib.hid (clone_ints h hl)
  clear h hl
  go_enter Tryz.func7, Tryz.ntmps7
  go_wp2_with fail
  refine HC.out.mono ?_
  rintro e w1 ⟨v', rfl, h1, h2, h3⟩
  obtain ⟨sa, sc, rfl, s1, s2⟩ := SlC.shape h1
  clear s1 s2
  have H1 := Lib.hid h1
  have H2 := Lib.hid h2
  have H3 := Lib.hid h3
  clear h1 h2 h3 HC
  go_wp2
  go_returns
  have fa : Fr NoF w1 (w1.alloc (.cells #[.slice sa l.length sc] 76)) := (Fr.refl NoF w1).alloc _
  have hs := H3.out.size
  refine ⟨w1.heap.size, fun i => i = w1.heap.size ∨ (Value.slice sa l.length sc).ownBlock = some i, rfl, ⟨.slice sa l.length sc, blk1 w1 _ _, SlC.keep H1.out fa, fun q => ?_, fun i => Iff.rfl⟩, fun i q => ?_, H3.out.trans fa (fun _ q => q.elim)⟩
  · have := SlC.lt H1.out _ q; omega
  · rcases q with rfl | q
    · exact hs
    · exact H2.out i q
end
end Go.Proofs.YtnideelidfpicaaGreatDoor
namespace Go.Proofs.YtnideelidfpicaaGreatDoor
open Go.RowKit Go.Maps
set_option linter.unusedVariables false
set_option linter.unusedSimpArgs false
set_option linter.unusedSectionVars false
set_option maxRecDepth 100000
section
variable {w w' : World}
theorem pnew_nil (n : Int) (l : Nat) : Calls Tryz.prog 6 #[.pointer none, .int .i64 n, advV l] w fun e w' => e = .returned (.tuple #[.pointer none, .int .i64 1]) ∧ w = w' := by
  unfold advV
  go_enter Tryz.func6, Tryz.ntmps6
  go_wp2
  go_returns
  exact ⟨rfl, rfl⟩
theorem pnew_no (n : Int) (l db : Nat) (h : n < 1 ∨ 65535 < n) : Calls Tryz.prog 6 #[.pointer (some ⟨db, 0, none⟩), .int .i64 n, advV l] w fun e w' => e = .returned (.tuple #[.pointer none, .int .i64 1]) ∧ w = w' := by
  unfold advV
  rcases Int.lt_or_le n 1 with h1 | h1
  · have g1 : decide (n < 1) = true := decide_eq_true h1
    go_enter Tryz.func6, Tryz.ntmps6
    go_wp2
    go_returns
    exact ⟨rfl, rfl⟩
  · have g1 : decide (n < 1) = false := decide_eq_false (by omega)
    have g2 : decide (65535 < n) = true := decide_eq_true (by omega)
    have g3 : decide (n > 65535) = true := decide_eq_true (by omega)
    go_enter Tryz.func6, Tryz.ntmps6
    go_wp2
    go_returns
    exact ⟨rfl, rfl⟩
/-- A set, and between which blocks it lies. -/
theorem full_at (n : Nat) (w : World) (h1 : 1 ≤ n) (h2 : n ≤ 65535) : Calls Tryz.prog 22 #[.int .i64 n] w fun e w' => ∃ v h L lo hi, lo = w.heap.size ∧ hi = w'.heap.size ∧ e = .returned (.agg #[.int .i64 n, .int .i64 n, v]) ∧ LS w' n (belowB n) v h L ∧ (∀ k, LF v h L k → lo ≤ k ∧ k < hi) ∧ Fr NoF w w' :=
  (full_calls n w h1 h2).mono fun e w' ⟨v, h, L, he, q1, q2, q3⟩ => ⟨v, h, L, _, _, rfl, rfl, he, q1, fun k q => ⟨q2 k q, q1.r.lt k q⟩, q3⟩
theorem empty_at (n : Nat) (w : World) (h1 : 1 ≤ n) (h2 : n ≤ 65535) : Calls Tryz.prog 23 #[.int .i64 n] w fun e w' => ∃ v h L lo hi, lo = w.heap.size ∧ hi = w'.heap.size ∧ e = .returned (.agg #[.int .i64 n, .int .i64 0, v]) ∧ LS w' n noneB v h L ∧ (∀ k, LF v h L k → lo ≤ k ∧ k < hi) ∧ Fr NoF w w' :=
  (empty_calls n w h1 h2).mono fun e w' ⟨v, h, L, he, q1, q2, q3⟩ => ⟨v, h, L, _, _, rfl, rfl, he, q1, fun k q => ⟨q2 k q, q1.r.lt k q⟩, q3⟩
theorem frV_made {n b : Nat} (hb : b = w.heap.size) : Blk (w.alloc (.cells (madeCells #[.int .u32 0, .int .u64 0, .int .i64 0, .bool false] (n * 4)) 96)) b (n * 4) (frV fun _ => zF) := by
  refine Blk.new w _ _ _ _ _ hb (size_madeCells _ _) (fun i hi => ?_)
  rw [made_at hi]
  unfold frV
  have h4 : i % 4 = 0 ∨ i % 4 = 1 ∨ i % 4 = 2 ∨ i % 4 = 3 := by omega
  show some (#[Value.int .u32 0, .int .u64 0, .int .i64 0, .bool false][i % 4]!) = _
  rcases h4 with e | e | e | e <;> rw [e] <;> rfl
theorem mpi_new {b : Nat} (hb : b = w.heap.size) : MpV Tryz.prog 43 .u32 (.int .i64 0) (w.alloc (.map #[] 0)) b 0 (plV fun _ => none) := by
  subst hb
  have e : plV (fun _ => none) = fun _ => none := by funext x; unfold plV; split <;> rfl
  rw [e]; exact MpV.made _ _ _ _ _
theorem mpi_drew {b c : Nat} {m : Int → Option Value} (h : MpV Tryz.prog 43 .u32 (.int .i64 0) w b c m) : MpV Tryz.prog 43 .u32 (.int .i64 0) w.drew b c m := h.ofHeap rfl
theorem ls_fr {bound : Nat} {S : Nat → Bool} {v : Value} {h : Nat → Nat} {L : Nat} (H : LS w bound S v h L) (f : Fr NoF w w') : LS w' bound S v h L := ⟨H.r.fr f (fun _ _ q => q), H.dom⟩
theorem fr_no {a b c : World} (h : Fr NoF a b) (k : Fr NoF b c) : Fr NoF a c := h.trans k (fun _ q => q.elim)
/-- The struct is laid. -/
theorem pnew_fin {X : World} {n db fb mb pb loE hiE loI hiI : Nat} {rv ev iv : Value} {eh ih : Nat → Nat} {eL iL : Nat} (hw : Fr NoF w X) (hpb : pb = X.heap.size) (hn : 1 ≤ n ∧ n ≤ 65535) (ht : TabT w)
    (hf : Blk X fb (n * 4) (frV fun _ => zF)) (hm : MpV Tryz.prog 43 .u32 (.int .i64 0) X mb 0 (plV fun _ => none)) (he : LS X n (belowB n) ev eh eL) (hi : LS X n noneB iv ih iL)
    (b1 : ∀ k, LF ev eh eL k → loE ≤ k ∧ k < hiE) (b2 : ∀ k, LF iv ih iL k → loI ≤ k ∧ k < hiI) (d1 : ¬ fb = mb ∧ w.heap.size ≤ fb ∧ w.heap.size ≤ mb ∧ w.heap.size ≤ loE ∧ w.heap.size ≤ loI) (d2 : hiE ≤ loI ∨ hiI ≤ loE) (d3 : (fb < loE ∨ hiE ≤ fb) ∧ (fb < loI ∨ hiI ≤ fb) ∧ (mb < loE ∨ hiE ≤ mb) ∧ (mb < loI ∨ hiI ≤ mb)) :
    MP (X.alloc (.cells #[.pointer (some ⟨db, 0, none⟩), rv, .slice (some ⟨fb, 0, none⟩) n n, .map (some mb), .int .i64 n, .int .i64 n, ev, .int .i64 n, .int .i64 0, iv, .int .i64 0] 71)) ⟨n, pb, db, fb, mb, rv, ev, eh, eL, iv, ih, iL⟩ (fun _ => zF) (fun _ => none) (belowB n) noneB 0 0 ∧
    (∀ i, (PP.mk n pb db fb mb rv ev eh eL iv ih iL).own i → w.heap.size ≤ i) ∧ Fr NoF w (X.alloc (.cells #[.pointer (some ⟨db, 0, none⟩), rv, .slice (some ⟨fb, 0, none⟩) n n, .map (some mb), .int .i64 n, .int .i64 n, ev, .int .i64 n, .int .i64 0, iv, .int .i64 0] 71)) := by
  have fz := (Fr.refl NoF X).alloc (.cells #[.pointer (some ⟨db, 0, none⟩), rv, .slice (some ⟨fb, 0, none⟩) n n, .map (some mb), .int .i64 n, .int .i64 n, ev, .int .i64 n, .int .i64 0, iv, .int .i64 0] 71)
  have lf := hf.lt
  have lm := hm.lt
  have le := he.r.lt
  have li := hi.r.lt
  have hs := hw.size
  have htl := ht.lt
  have howns : ∀ i, (PP.mk n pb db fb mb rv ev eh eL iv ih iL).own i → w.heap.size ≤ i := fun i q => by
    rcases q with q | q | q | q | q
    · have q' : i = pb := q; omega
    · have q' : i = fb := q; omega
    · have q' : i = mb := q; omega
    · have := b1 i q; omega
    · have := b2 i q; omega
  refine ⟨⟨Blk.new X _ _ 11 _ _ hpb rfl (fun i hi => ?_), hf.fr fz (fun q => q), ⟨0, Nat.le_refl _, hm.fr fz (fun q => q)⟩, ls_fr he fz, ls_fr hi fz, ⟨by show ¬ fb = pb; omega, by show ¬ mb = pb; omega, by show ¬ mb = fb; omega⟩, fun i q => ?_, fun i q => ?_, (ht.fr0 hw).fr0 fz, fun q => by have := howns _ q; omega, Nat.le_refl _, fun i => ⟨by show 0 < _; omega, by show 0 < _; omega, by show 0 ≤ 0; omega⟩⟩, howns, fr_no hw fz⟩
  · have e1 : cntB (belowB n) n = n := cntB_below n n (Nat.le_refl _)
    have e2 : cntB noneB n = 0 := (cnt_none n noneB).2 (by
      cases e : fstB n noneB with
      | none => rfl
      | some x => have := (fstB_some e).2.1; cases this)
    show _ = some (pH _ (cntB (belowB n) n) (cntB noneB n) 0 i)
    rw [e1, e2]
    match i, hi with
    | 0, _ | 1, _ | 2, _ | 3, _ | 4, _ | 5, _ | 6, _ | 7, _ | 8, _ | 9, _ | 10, _ => rfl
  · have q' : LF ev eh eL i := q
    have r1 := b1 i q'
    have r2 := le i q'
    refine ⟨by show ¬ i = pb; omega, by show ¬ i = fb; omega, by show ¬ i = mb; omega, fun k => ?_⟩
    have r3 := b2 i k
    omega
  · have q' : LF iv ih iL i := q
    have r1 := b2 i q'
    have r2 := li i q'
    exact ⟨by show ¬ i = pb; omega, by show ¬ i = fb; omega, by show ¬ i = mb; omega⟩
theorem pnew_step {X : World} {n db fb mb loE hiE loI hiI : Nat} {rv ev iv : Value} {eh ih : Nat → Nat} {eL iL : Nat} {Post : Ending → World → Prop} (hw : Fr NoF w X) (hn : 1 ≤ n ∧ n ≤ 65535) (ht : TabT w)
    (hf : Blk X fb (n * 4) (frV fun _ => zF)) (hm : MpV Tryz.prog 43 .u32 (.int .i64 0) X mb 0 (plV fun _ => none)) (he : LS X n (belowB n) ev eh eL) (hi : LS X n noneB iv ih iL)
    (b1 : ∀ k, LF ev eh eL k → loE ≤ k ∧ k < hiE) (b2 : ∀ k, LF iv ih iL k → loI ≤ k ∧ k < hiI) (d1 : ¬ fb = mb ∧ w.heap.size ≤ fb ∧ w.heap.size ≤ mb ∧ w.heap.size ≤ loE ∧ w.heap.size ≤ loI) (d2 : hiE ≤ loI ∨ hiI ≤ loE) (d3 : (fb < loE ∨ hiE ≤ fb) ∧ (fb < loI ∨ hiI ≤ fb) ∧ (mb < loE ∨ hiE ≤ mb) ∧ (mb < loI ∨ hiI ≤ mb))
    (h : ∀ XW (p : PP), (p.n = n ∧ p.db = db ∧ p.rv = rv ∧ p.pb = X.heap.size ∧ p.mb = mb) → MP XW p (fun _ => zF) (fun _ => none) (belowB n) noneB 0 0 → (∀ i, p.own i → w.heap.size ≤ i) → Fr NoF w XW → Calls Tryz.prog 24 #[.pointer (some ⟨db, 0, none⟩)] XW Post) :
    Calls Tryz.prog 24 #[.pointer (some ⟨db, 0, none⟩)] (X.alloc (.cells #[.pointer (some ⟨db, 0, none⟩), rv, .slice (some ⟨fb, 0, none⟩) n n, .map (some mb), .int .i64 n, .int .i64 n, ev, .int .i64 n, .int .i64 0, iv, .int .i64 0] 71)) Post := by
  obtain ⟨q1, q2, q3⟩ := pnew_fin (db := db) (rv := rv) hw rfl hn ht hf hm he hi b1 b2 d1 d2 d3
  exact h _ _ ⟨rfl, rfl, rfl, rfl, rfl⟩ q1 q2 q3
/-- The first k of the disk's pages are known. -/
def plK (ids : List Nat) (k : Nat) : Nat → Option Int := fun id => if id ∈ ids.take k then some (-1) else none
theorem plK_0 (ids : List Nat) : plK ids 0 = fun _ => none := by funext x; simp [plK]
theorem mem_take (ids : List Nat) {k : Nat} (hk : k < ids.length) (y : Nat) : y ∈ ids.take (k + 1) ↔ y ∈ ids.take k ∨ y = ids[k] := by
  rw [List.take_add_one, List.mem_append]
  simp [hk]
theorem plK_next (ids : List Nat) {k : Nat} (hk : k < ids.length) : updO (plK ids k) ids[k] (some (-1)) = plK ids (k + 1) := by
  funext y
  by_cases e : y = ids[k]
  · rw [e, updO_same]
    unfold plK
    rw [if_pos ((mem_take ids hk _).2 (.inr rfl))]
  · rw [updO_other _ _ e]
    unfold plK
    by_cases q : y ∈ ids.take k
    · rw [if_pos q, if_pos ((mem_take ids hk y).2 (.inl q))]
    · rw [if_neg q, if_neg (fun h => ((mem_take ids hk y).1 h).elim q e)]
theorem drew_size (w : World) : w.drew.heap.size = w.heap.size := rfl
theorem plK_all (ids : List Nat) : plK ids ids.length = fun id => if id ∈ ids then some (-1) else none := by funext y; unfold plK; rw [List.take_length]
set_option maxHeartbeats 8000000 in
theorem pnew_made (n db : Nat) {rv : Value} {it : TypeId} {iv0 : Value} (hrv : rv = .iface it iv0) (w : World) (hn : 1 ≤ n ∧ n ≤ 65535) (ht : TabT w) {ids : List Nat} (hil : ids.length ≤ 1000) (hid : ∀ x ∈ ids, x < 4294967296) (hP : ∀ W, Fr NoF w W → Calls Tryz.prog 24 #[.pointer (some ⟨db, 0, none⟩)] W fun e w' => ∃ v, e = .returned v ∧ OwK .u32 W.heap.size 43 w' v ids ∧ Fr NoF W w') :
    Calls Tryz.prog 6 #[.pointer (some ⟨db, 0, none⟩), .int .i64 n, rv] w fun e w' => ∃ p : PP, p.n = n ∧ p.db = db ∧ p.rv = rv ∧ e = .returned (.tuple #[p.ptr, .int .i64 0]) ∧ MP w' p (fun _ => zF) (fun id => if id ∈ ids then some (-1) else none) (belowB n) noneB 0 1000 ∧ (∀ i, p.own i → w.heap.size ≤ i) ∧ Fr NoF w w' := by
  subst hrv
  obtain ⟨i0, hi0, hz0, hz1, hz2⟩ := info_parts' (P := Tryz.prog) (e := 96) (z := .agg #[.int .u32 0, .int .u64 0, .int .i64 0, .bool false]) (s := 4) (b := 32) (by kernel_rfl)
  have mk1 : ∀ (w : World), (Instr.makeSlice 64 (.int .i64 (n : Int)) (.int .i64 (n : Int))).run Tryz.prog w =
      .ok (.slice (some ⟨w.heap.size, 0, none⟩) n n) (w.alloc (.cells (madeCells #[.int .u32 0, .int .u64 0, .int .i64 0, .bool false] (n * 4)) 96)) := by
    intro w
    have := run_make (P := Tryz.prog) w 64 96 i0 _ Tryz.underlying64 hi0 hz0 .i64 .i64 (n : Int) (n : Int) (by omega) (Int.le_refl _) (by rw [hz2]; omega) (by omega)
    rw [show (n : Int).toNat = n from by omega, hz1] at this
    exact this
  have hmm := @run_makeMap Tryz.prog
  have g1 : decide ((n : Int) < 1) = false := by simp; omega
  have g2 : decide (65535 < (n : Int)) = false := by simp; omega
  have HNN := Lib.hid hn
  have HP := Lib.hid hP
  have HT := Lib.hid ht
  have HID := Lib.hid hid
  clear hi0 hz0 hz1 hz2 hn hP ht hid
  go_enter Tryz.func6, Tryz.ntmps6
  go_upto_region 3 with fail
  clear g1 g2
  go_region_held3 (fun w' => True)
    (trivial)
    (first
    | (go_at_call 22; (refine (full_at n _ HNN.out.1 HNN.out.2).mono ?_); rintro e wE ⟨ev, eh, eL, loE, hiE, zE1, zE2, rfl, k1, k2, fE⟩; have K1 := Lib.hid k1; have K2 := Lib.hid k2; have FE := Lib.hid fE; have ZE1 := Lib.hid zE1; have ZE2 := Lib.hid zE2; clear k1 k2 fE zE1 zE2)
    | (go_at_call 23; (refine (empty_at n _ HNN.out.1 HNN.out.2).mono ?_); rintro e wI ⟨iv, ih, iL, loI, hiI, zI1, zI2, rfl, k3, k4, fI⟩; have K3 := Lib.hid k3; have K4 := Lib.hid k4; have FI := Lib.hid fI; have ZI1 := Lib.hid zI1; have ZI2 := Lib.hid zI2; clear k3 k4 fI zI1 zI2))
  all_goals
    go_wp2_with fail
    have a1 := ZE1.out
    have a2 := ZE2.out
    have a3 := ZI1.out
    have a4 := ZI2.out
    have a5 := FE.out.size
    have a6 := FI.out.size
    (try simp only [alloc_size, drew_size] at a1)
    (try simp only [alloc_size, drew_size] at a2)
    (try simp only [alloc_size, drew_size] at a3)
    (try simp only [alloc_size, drew_size] at a4)
    (try simp only [alloc_size, drew_size] at a5)
    (try simp only [alloc_size, drew_size] at a6)
    refine pnew_step
       (by repeat (first | (with_reducible exact Fr.refl NoF _) | (with_reducible refine Fr.alloc ?_ _) | (with_reducible refine Fr.drew ?_) | (with_reducible refine fr_no ?_ FE.out) | (with_reducible refine fr_no ?_ FI.out)))
       HNN.out HT.out
       (by repeat (first | ((with_reducible refine frV_made ?_); first | rfl | (simp only [alloc_size]; done) | simp) | (with_reducible refine Blk.alloc ?_ _) | (with_reducible refine Blk.drew ?_) | (with_reducible refine Blk.fr ?_ FE.out (fun q => q)) | (with_reducible refine Blk.fr ?_ FI.out (fun q => q))))
       (by repeat (first | ((with_reducible refine mpi_new ?_); first | rfl | (simp only [alloc_size]; done) | simp) | (with_reducible refine MpV.alloc ?_ _) | (with_reducible refine mpi_drew ?_) | (with_reducible refine MpV.fr ?_ FE.out (fun q => q)) | (with_reducible refine MpV.fr ?_ FI.out (fun q => q))))
       (ls_fr K1.out (by repeat (first | (with_reducible exact Fr.refl NoF _) | (with_reducible refine Fr.alloc ?_ _) | (with_reducible refine Fr.drew ?_) | (with_reducible refine fr_no ?_ FI.out))))
       (ls_fr K3.out (by repeat (first | (with_reducible exact Fr.refl NoF _) | (with_reducible refine Fr.alloc ?_ _) | (with_reducible refine Fr.drew ?_) | (with_reducible refine fr_no ?_ FE.out))))
       K2.out K4.out
       (by omega) (by omega) (by omega) ?_
    rintro XW p ⟨hpn, hpd, hpr, hpb, hpm⟩ hmp hown hfr
    (try simp only [alloc_size, drew_size] at hpb)
    (try simp only [alloc_size, drew_size] at hpm)
    have HPN := Lib.hid hpn
    have HPD := Lib.hid hpd
    have HPR := Lib.hid hpr
    have HPB := Lib.hid hpb
    have HPM := Lib.hid hpm
    clear hpn hpd hpr hpb hpm
    have HM := Lib.hid hmp
    have HW := Lib.hid hown
    have HF := Lib.hid hfr
    have hs0 := hfr.size
    clear hmp hown hfr a1 a2 a3 a4 a5 a6 FE FI K1 K2 K3 K4 ZE1 ZE2 ZI1 ZI2
    refine (HP.out XW HF.out).mono ?_
    rintro e w4 ⟨v, rfl, ho, f4⟩
    have HO := Lib.hid ho
    have F4 := Lib.hid f4
    obtain ⟨sa, sc, rfl, s1, s2⟩ := SlK.shape ho.sl
    have HSC := Lib.hid s2
    have hmp4 := HM.out.fr0 f4
    have ho2 := ho
    clear ho f4 s2
    have hbase := ho2.base
    have hmbx : p.mb < XW.heap.size := HM.out.lt _ (.inr (.inr (.inl rfl)))
    have HMP4 := Lib.hid hmp4
    have HBX := Lib.hid (show ∀ b, (Value.slice sa ids.length sc).ownBlock = some b → ¬ b = p.mb from fun b q e => by have := hbase b q; omega)
    clear hmp4 ho2 hbase hmbx
    go_wp2_with fail
    go_loopw [39] (fun i wr => ∃ k : Nat, k ≤ ids.length ∧ i = .int .i64 k ∧ MP wr p (fun _ => zF) (plK ids k) (belowB n) noneB 0 k ∧ Fr (fun i => i = p.mb) w4 wr) (fun i _ => ids.length - (intOf i).toNat)
    case atStart => exact ⟨0, Nat.zero_le _, rfl, by rw [plK_0]; exact HMP4.out, Fr.refl _ _⟩
    case round =>
      obtain ⟨k, hk, rfl, hm5, f5⟩ := hrel
      have HM5 := Lib.hid hm5
      have F5 := Lib.hid f5
      have c3 : wr.cell? ⟨p.pb, 3, none⟩ = some (.map (some p.mb)) := hm5.ce 3 (by omega)
      have l5 := hm5.hd.lt
      rw [HPB.out, HPM.out] at c3
      rw [HPB.out] at l5
      by_cases hlt : k < ids.length
      · obtain ⟨b, off, c, ev5, q1, q2, q3, q4⟩ := (SlK.fr HO.out.sl f5 (fun b q e => HBX.out b q e)).at hlt
        simp only [Value.slice.injEq] at ev5
        obtain ⟨rfl, _, rfl⟩ := ev5
        obtain ⟨w6, r6, h6, g6⟩ := hm5.put (by omega) (HID.out _ (List.getElem_mem hlt)) (-1)
        rw [plK_next ids hlt] at h6
        rw [HPM.out] at r6
        have H6 := Lib.hid h6
        have G6 := Lib.hid g6
        generalize ids[k] = idk at *
        clear hm5 f5 h6 g6
        go_wp2
        go_roundw
        case rel => exact ⟨k + 1, by omega, by go_num, H6.out, F5.out.trans G6.out (fun i q => .inl q)⟩
        case measure => simp [intOf]; omega
      · obtain rfl : k = ids.length := by omega
        clear hm5 f5
        go_wp2
        go_returns
        refine ⟨p, HPN.out, HPD.out, HPR.out, by unfold PP.ptr; rw [HPB.out]; rfl, by rw [← plK_all]; exact HM5.out.more (by omega), HW.out, ?_⟩
        refine (HF.out.trans F4.out (fun _ q => q.elim)).trans F5.out (fun i q => .inr (by rw [q]; exact HW.out _ (.inr (.inr (.inl rfl)))))
end
end Go.Proofs.YtnideelidfpicaaGreatDoor

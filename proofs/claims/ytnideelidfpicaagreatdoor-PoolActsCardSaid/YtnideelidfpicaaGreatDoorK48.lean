/-
  The document's pool in memory; Frame, free, all, Pins, Has.
  The document's pool: Has, all, Pins, held, Read, Unpin, Write.
  pool: Write, Flush, Delete.
  pool: Delete.
  The document's pool: Pins, Read, Unpin, Write.
  The document's pool: Flush, Delete.
-/
import Derived.Test.YtnideelidfpicaaGreatDoorK46
import Derived.Test.YtnideelidfpicaaGreatDoorK47
import Derived.StillTailTactics
namespace Go.Proofs.YtnideelidfpicaaGreatDoor
open Go.RowKit
set_option linter.unusedVariables false
set_option linter.unusedSimpArgs false
set_option linter.unusedSectionVars false
set_option maxRecDepth 100000

structure QQ where
  n : Nat
  pb : Nat
  rb : Nat
  fb : Nat
def QQ.ptr (q : QQ) : Value := .pointer (some ⟨q.pb, 0, none⟩)
def qH (q : QQ) (av : Value) (sc : Nat) (i : Nat) : Value := match i with
  | 0 => .pointer (some ⟨q.rb, 0, none⟩)
  | 1 => .slice (some ⟨q.fb, 0, none⟩) q.n q.n
  | 2 => av
  | _ => .int .i64 sc
/-- The document's pool, its disk aside. -/
structure QM (w : World) (q : QQ) (f : Nat → FrS) (l : List Int) (sc m : Nat) (av : Value) : Prop where
  hd : Blk w q.pb 4 (qH q av sc)
  fr : Blk w q.fb (q.n * 4) (frV f)
  ad : SlZ w av l
  d1 : ¬ q.fb = q.pb
  d2 : ∀ b, av.ownBlock = some b → ¬ b = q.pb ∧ ¬ b = q.fb
  hn : 1 ≤ q.n ∧ q.n ≤ 65535
  bd : sc ≤ m ∧ ∀ i, (f i).id < 4294967296 ∧ (f i).val < 18446744073709551616 ∧ (f i).pins ≤ m
def QI (q : QQ) (z : Nat) (X : PS (List Int)) (m : Nat) (w : World) (F : Nat → Prop) : Prop := ∃ FD av, QM w q X.f X.A X.sc m av ∧ QD q.rb X.D m w FD ∧ (¬ FD q.pb ∧ ¬ FD q.fb) ∧ (∀ b, av.ownBlock = some b → b < z) ∧ (∀ i, F i ↔ i = q.pb ∨ i = q.fb ∨ FD i) ∧ (∀ i, F i → z ≤ i) ∧ z ≤ w.heap.size
section
variable {w w' : World} {q : QQ} {f : Nat → FrS} {l : List Int} {sc m z : Nat} {av : Value} {X : PS (List Int)} {F : Nat → Prop}
theorem QM.fro (H : QM w q f l sc m av) {G : Nat → Prop} (g : Fr G w w') (h1 : ¬ G q.pb) (h2 : ¬ G q.fb) (h3 : ∀ b, av.ownBlock = some b → ¬ G b) : QM w' q f l sc m av :=
  ⟨H.hd.fr g h1, H.fr.fr g h2, SlC.fr H.ad g h3, H.d1, H.d2, H.hn, H.bd⟩
theorem QM.fr0 (H : QM w q f l sc m av) (g : Fr NoF w w') : QM w' q f l sc m av := H.fro g id id (fun _ _ => id)
theorem QM.more (H : QM w q f l sc m av) {k : Nat} (hk : m ≤ k) : QM w q f l sc k av := ⟨H.hd, H.fr, H.ad, H.d1, H.d2, H.hn, by have := H.bd.1; omega, fun i => ⟨(H.bd.2 i).1, (H.bd.2 i).2.1, by have := (H.bd.2 i).2.2; omega⟩⟩
theorem QM.ce (H : QM w q f l sc m av) (i : Nat) (hi : i < 4) : w.cell? ⟨q.pb, i, none⟩ = some (qH q av sc i) := H.hd.cell hi
theorem QM.cf (H : QM w q f l sc m av) {k : Nat} (hk : k < q.n) : w.cell? ⟨q.fb, k * 4, none⟩ = some (.int .u32 (f k).id) ∧ w.cell? ⟨q.fb, k * 4 + 1, none⟩ = some (.int .u64 (f k).val) ∧ w.cell? ⟨q.fb, k * 4 + 2, none⟩ = some (.int .i64 (f k).pins) ∧ w.cell? ⟨q.fb, k * 4 + 3, none⟩ = some (.bool (f k).dirty) := by
  have h0 := H.fr.cell (i := k * 4) (by omega)
  have h1 := H.fr.cell (i := k * 4 + 1) (by omega)
  have h2 := H.fr.cell (i := k * 4 + 2) (by omega)
  have h3 := H.fr.cell (i := k * 4 + 3) (by omega)
  rw [frV_0] at h0; rw [frV_1] at h1; rw [frV_2] at h2; rw [frV_3] at h3
  exact ⟨h0, h1, h2, h3⟩
theorem QI.fr (H : QI q z X m w F) {G : Nat → Prop} (g : Fr G w w') (hG : ∀ i, F i → ¬ G i) (hz : ∀ i, i < z → ¬ G i) : QI q z X m w' F := by
  obtain ⟨FD, av, h1, h2, h3, h4, h5, h6, h7⟩ := H
  exact ⟨FD, av, h1.fro g (hG _ ((h5 _).2 (.inl rfl))) (hG _ ((h5 _).2 (.inr (.inl rfl)))) (fun b e => hz b (h4 b e)), h2.fr g (fun i k => hG i ((h5 i).2 (.inr (.inr k)))), h3, h4, h5, h6, by have := g.size; omega⟩
theorem QI.fr0 (H : QI q z X m w F) (g : Fr NoF w w') : QI q z X m w' F := H.fr g (fun _ _ k => k) (fun _ _ k => k)
theorem QI.more (H : QI q z X m w F) {k : Nat} (hk : m ≤ k) : QI q z X k w F := by
  obtain ⟨FD, av, h1, h2, h3, h4, h5, h6, h7⟩ := H
  exact ⟨FD, av, h1.more hk, h2.more hk, h3, h4, h5, h6, h7⟩
theorem QI.lt (H : QI q z X m w F) : ∀ i, F i → i < w.heap.size := by
  obtain ⟨FD, av, h1, h2, h3, h4, h5, h6, h7⟩ := H
  intro i k
  rcases (h5 i).1 k with e | e | e
  · rw [e]; exact h1.hd.lt
  · rw [e]; exact h1.fr.lt
  · exact h2.lt i e
theorem QI.qm (H : QI q z X m w F) : ∃ av, QM w q X.f X.A X.sc m av := by obtain ⟨FD, av, h1, _⟩ := H; exact ⟨av, h1⟩
/-- Its disk is called. -/
theorem QI.disk (H : QI q z X m w F) {g : FuncId} {args : Array Value} {Q : Ending → World → Prop} {D' : RS} {k : Nat} (hk : m ≤ k) (hc : ∀ FD, QD q.rb X.D m w FD → Calls Tryz.prog g args w fun e w' => Q e w' ∧ Led (QD q.rb D' k) FD w w') :
    Calls Tryz.prog g args w fun e w' => Q e w' ∧ Led (QI q z { X with D := D' } k) F w w' := by
  obtain ⟨FD, av, h1, h2, h3, h4, h5, h6, h7⟩ := H
  refine (hc FD h2).mono ?_
  rintro e w' ⟨he, FD', hd, f, hq⟩
  have hz : ∀ i, FD i → z ≤ i := fun i k => h6 i ((h5 i).2 (.inr (.inr k)))
  refine ⟨he, fun i => i = q.pb ∨ i = q.fb ∨ FD' i, ⟨FD', av, (h1.fro f h3.1 h3.2 (fun b e k => by have := h4 b e; have := hz b k; omega)).more hk, hd, ⟨fun k => ?_, fun k => ?_⟩, h4, fun i => Iff.rfl, fun i k => ?_, by have := f.size; omega⟩, f.mono (fun i k => (h5 i).2 (.inr (.inr k))), fun i k => ?_⟩
  · rcases hq _ k with k | k
    · exact h3.1 k
    · have := h1.hd.lt; omega
  · rcases hq _ k with k | k
    · exact h3.2 k
    · have := h1.fr.lt; omega
  · rcases k with e | e | e
    · rw [e]; exact h6 _ ((h5 _).2 (.inl rfl))
    · rw [e]; exact h6 _ ((h5 _).2 (.inr (.inl rfl)))
    · rcases hq i e with e | e
      · exact hz i e
      · omega
  · rcases k with e | e | e
    · exact .inl ((h5 i).2 (.inl e))
    · exact .inl ((h5 i).2 (.inr (.inl e)))
    · exact (hq i e).imp (fun e => (h5 i).2 (.inr (.inr e))) id
set_option maxHeartbeats 2000000 in
theorem qf_frame (H : QM w q f l sc m av) (id : Nat) (h0 : 1 ≤ id) : Calls Tryz.prog 14 #[q.ptr, .int .u32 id] w fun e w' => e = .returned (.int .i64 (plZ (frm q.n f id))) ∧ w = w' := by
  have c1 : w.cell? ⟨q.pb, 1, none⟩ = some (.slice (some ⟨q.fb, 0, none⟩) q.n q.n) := H.ce 1 (by omega)
  have lb := H.hd.lt
  have lf := H.fr.lt
  have hn := H.hn
  have KF : Hid (∀ k, k < q.n → w.cell? ⟨q.fb, k * 4, none⟩ = some (.int .u32 (f k).id)) := fun k hk => (H.cf hk).1
  have hne : ((id : Int) == 0) = false := by simp <;> omega
  unfold QQ.ptr
  clear H
  go_enter Tryz.func14, Tryz.ntmps14
  go_wp2
  go_loopw [5] (fun i wr => ∃ k : Nat, k ≤ q.n ∧ i = .int .i64 k ∧ (∀ j, j < k → ¬ (f j).id = id) ∧ wr = w) (fun i _ => q.n - (intOf i).toNat)
  case atStart => exact ⟨0, Nat.zero_le _, rfl, fun j hj => by omega, rfl⟩
  case round =>
    obtain ⟨k, hk, rfl, ha, rfl⟩ := hrel
    have HA := Lib.hid ha
    by_cases hlt : k < q.n
    · have hlt' : (k : Int) < (q.n : Int) := by omega
      have cx := KF.out k hlt
      by_cases he : (f k).id = id
      · have HR : Hid (frm q.n f id = some k) := fstB_is hlt ⟨by simpa using he, fun y hy => by simpa using ha y hy⟩
        have he2 : (((f k).id : Int) == (id : Int)) = true := by simp [he]
        rw [he] at cx
        clear ha
        go_wp2
        go_returns
        exact ⟨by rw [HR.out]; rfl, by first | rfl | trivial⟩
      · have he2 : (((f k).id : Int) == (id : Int)) = false := by simp <;> omega
        have HE := Lib.hid he
        generalize hxi : (f k).id = xi at *
        clear ha
        go_wp2
        go_roundw
        case rel => exact ⟨k + 1, by omega, by go_num, fun j hj => by
          by_cases e : j = k
          · rw [e, hxi]; exact HE.out
          · exact HA.out j (by omega), by first | rfl | trivial⟩
        case measure => simp [intOf]; omega
    · obtain rfl : k = q.n := by omega
      have HR : Hid (frm q.n f id = none) := frm_eq_none ha
      clear ha
      go_wp2
      go_returns
      exact ⟨by rw [HR.out]; rfl, by first | rfl | trivial⟩
set_option maxHeartbeats 2000000 in
theorem qf_free (H : QM w q f l sc m av) (b : Bool) (I : Nat → Bool) (hI : ∀ i, i < q.n → I i = (((decide ((f i).id = 0)) == b) && decide ((f i).pins = 0))) : Calls Tryz.prog 90 #[q.ptr, .bool b] w fun e w' => e = .returned (.int .i64 (plZ (fstB q.n I))) ∧ w = w' := by
  have c1 : w.cell? ⟨q.pb, 1, none⟩ = some (.slice (some ⟨q.fb, 0, none⟩) q.n q.n) := H.ce 1 (by omega)
  have lb := H.hd.lt
  have lf := H.fr.lt
  have hn := H.hn
  have KF : Hid (∀ k, k < q.n → w.cell? ⟨q.fb, k * 4, none⟩ = some (.int .u32 (f k).id) ∧ w.cell? ⟨q.fb, k * 4 + 2, none⟩ = some (.int .i64 (f k).pins)) := fun k hk => ⟨(H.cf hk).1, (H.cf hk).2.2.1⟩
  have HI := Lib.hid hI
  unfold QQ.ptr
  clear H hI
  go_enter Tryz.func90, Tryz.ntmps90
  go_wp2
  go_loopw [5] (fun i wr => ∃ k : Nat, k ≤ q.n ∧ i = .int .i64 k ∧ (∀ j, j < k → I j = false) ∧ wr = w) (fun i _ => q.n - (intOf i).toNat)
  case atStart => exact ⟨0, Nat.zero_le _, rfl, fun j hj => by omega, rfl⟩
  case round =>
    obtain ⟨k, hk, rfl, ha, rfl⟩ := hrel
    have HA := Lib.hid ha
    by_cases hlt : k < q.n
    · have hlt' : (k : Int) < (q.n : Int) := by omega
      obtain ⟨cx, cp⟩ := KF.out k hlt
      have hIk := HI.out k hlt
      have e1 : (((f k).id : Int) == 0) = decide ((f k).id = 0) := by rw [Bool.eq_iff_iff]; simp
      have e2 : (((f k).pins : Int) == 0) = decide ((f k).pins = 0) := by rw [Bool.eq_iff_iff]; simp
      by_cases he : I k = true
      · have HR : Hid (fstB q.n I = some k) := fstB_is hlt ⟨he, ha⟩
        rw [he] at hIk
        have h1 : (decide ((f k).id = 0) == b) = true := by revert hIk; cases (decide ((f k).id = 0) == b) <;> simp
        have h2 : decide ((f k).pins = 0) = true := by rw [h1] at hIk; revert hIk; simp
        rw [h2] at e2
        generalize hd : decide ((f k).id = 0) = d at *
        clear ha hIk he h2 hd
        generalize (f k).id = xi at *
        generalize (f k).pins = xp at *
        cases d <;> cases b <;> first
          | (exfalso; revert h1; decide)
          | (go_wp2
             go_returns
             exact ⟨by rw [HR.out]; rfl, by first | rfl | trivial⟩)
      · have he' : I k = false := by simpa using he
        have HE := Lib.hid he'
        rw [he'] at hIk
        generalize hd : decide ((f k).id = 0) = d at *
        generalize hp : decide ((f k).pins = 0) = dp at *
        clear ha he he' hd hp
        generalize (f k).id = xi at *
        generalize (f k).pins = xp at *
        cases d <;> cases b <;> cases dp <;> first
          | (exfalso; revert hIk; decide)
          | (clear hIk
             go_wp2
             go_roundw
             case rel => exact ⟨k + 1, by omega, by go_num, fun j hj => by
               by_cases e : j = k
               · rw [e]; exact HE.out
               · exact HA.out j (by omega), by first | rfl | trivial⟩
             case measure => simp [intOf]; omega)
    · obtain rfl : k = q.n := by omega
      have HR : Hid (fstB q.n I = none) := by
        cases e : fstB q.n I with
        | none => rfl
        | some x => obtain ⟨g1, g2⟩ := fstB_some e; have := ha x g1; rw [g2.1] at this; cases this
      clear ha
      go_wp2
      go_returns
      exact ⟨by rw [HR.out]; rfl, by first | rfl | trivial⟩
end
end Go.Proofs.YtnideelidfpicaaGreatDoor
namespace Go.Proofs.YtnideelidfpicaaGreatDoor
open Go.RowKit
set_option linter.unusedVariables false
set_option linter.unusedSimpArgs false
set_option linter.unusedSectionVars false
set_option maxRecDepth 100000
section
variable {w w' : World} {q : QQ} {f : Nat → FrS} {l : List Int} {sc m z rb : Nat} {av : Value} {X : PS (List Int)} {F : Nat → Prop} {r : RS}
theorem qd_has (h : QD rb r m w F) (id : Nat) : Calls Tryz.prog 18 #[.pointer (some ⟨rb, 0, none⟩), .int .u32 id] w fun e w' => e = .returned (.bool (r.has id)) ∧ w = w' := by
  obtain ⟨lv, nv, sv, h1, h2, h3, h4, h5⟩ := h
  have c1 : w.cell? ⟨rb, 1, none⟩ = some lv := h1.ce 1 (by omega)
  have lb := h1.hd.lt
  have HA := Lib.hid (at_calls h1.hl id)
  have HR : Hid (r.has id = (atP r.L id).isSome) := rfl
  rw [HR.out]
  obtain ⟨a, c, e, _, _⟩ := SlP.shape h1.hl
  subst e
  clear h1 h2 h3 h4 h5
  cases hx : atP r.L id with
  | none =>
    rw [hx] at HA
    rw [show atZ none = -1 from rfl] at HA
    clear hx
    go_enter Tryz.func18, Tryz.ntmps18
    go_wp2_with fail
    refine HA.out.mono ?_
    rintro e w1 ⟨rfl, rfl⟩
    go_wp2
    go_returns
    exact ⟨rfl, by first | rfl | trivial⟩
  | some k =>
    rw [hx] at HA
    rw [show atZ (some k) = (k : Int) from rfl] at HA
    have hge : decide ((k : Int) ≥ 0) = true := by simp
    clear hx
    go_enter Tryz.func18, Tryz.ntmps18
    go_wp2_with fail
    refine HA.out.mono ?_
    rintro e w1 ⟨rfl, rfl⟩
    go_wp2
    go_returns
    exact ⟨rfl, by first | rfl | trivial⟩
set_option maxHeartbeats 2000000 in
theorem qf_frame0 (H : QM w q f l sc m av) : Calls Tryz.prog 14 #[q.ptr, .int .u32 0] w fun e w' => e = .returned (.int .i64 (-1)) ∧ w = w' := by
  have c1 : w.cell? ⟨q.pb, 1, none⟩ = some (.slice (some ⟨q.fb, 0, none⟩) q.n q.n) := H.ce 1 (by omega)
  have lb := H.hd.lt
  have hn := H.hn
  unfold QQ.ptr
  clear H
  go_enter Tryz.func14, Tryz.ntmps14
  go_wp2
  go_loopw [5] (fun i wr => ∃ k : Nat, k ≤ q.n ∧ i = .int .i64 k ∧ wr = w) (fun i _ => q.n - (intOf i).toNat)
  case atStart => exact ⟨0, Nat.zero_le _, rfl, rfl⟩
  case round =>
    obtain ⟨k, hk, rfl, rfl⟩ := hrel
    by_cases hlt : k < q.n
    · have hlt' : (k : Int) < (q.n : Int) := by omega
      go_wp2
      go_roundw
      case rel => exact ⟨k + 1, by omega, by go_num, by first | rfl | trivial⟩
      case measure => simp [intOf]; omega
    · obtain rfl : k = q.n := by omega
      go_wp2
      go_returns
      exact ⟨rfl, by first | rfl | trivial⟩
/-- In the document's words: the frame of a page, whatever its number. -/
def frZ (n : Nat) (f : Nat → FrS) (id : Nat) : Int := if id = 0 then -1 else plZ (frm n f id)
theorem qf_frameZ (H : QM w q f l sc m av) (id : Nat) : Calls Tryz.prog 14 #[q.ptr, .int .u32 id] w fun e w' => e = .returned (.int .i64 (frZ q.n f id)) ∧ w = w' := by
  unfold frZ
  by_cases h : id = 0
  · subst h; rw [if_pos rfl]; exact qf_frame0 H
  · rw [if_neg h]; exact qf_frame H id (by omega)
theorem frZ_frame (hI : Inv q.n X.f X.D) (id : Nat) : frZ q.n X.f id = X.frame q.n id := by
  unfold frZ PS.frame plO
  by_cases h : id = 0
  · subst h
    rw [if_pos rfl]
    have : ¬ X.D.has 0 = true := fun e => by have := hI.pos e; omega
    rw [if_neg this]; rfl
  · rw [if_neg h]
    by_cases hh : X.D.has id = true
    · rw [if_pos hh]; rfl
    · rw [if_neg hh]
      cases e : frm q.n X.f id with
      | none => rfl
      | some k =>
        obtain ⟨h1, h2⟩ := frm_some e
        exact absurd (by have := hI.has k h1 (by omega); rwa [h2] at this) hh
theorem qf_all (H : QM w q X.f l sc m av) (hI : Inv q.n X.f X.D) : Calls Tryz.prog 60 #[q.ptr] w fun e w' => e = .returned (.bool (X.all q.n)) ∧ w = w' := by
  have h1 : ∀ i, i < q.n → emB q.n X.f i = (((decide ((X.f i).id = 0)) == true) && decide ((X.f i).pins = 0)) := fun i hi => by
    rw [emB_at hi]
    by_cases h : (X.f i).id = 0
    · rw [hI.em i hi h]; rfl
    · simp [h]
  have h2 : ∀ i, i < q.n → idB q.n X.f i = (((decide ((X.f i).id = 0)) == false) && decide ((X.f i).pins = 0)) := fun i hi => by
    rw [idB_at hi]
    by_cases h : (X.f i).id = 0 <;> simp [h]
  have HE := Lib.hid (qf_free H true _ h1)
  have HF := Lib.hid (qf_free H false _ h2)
  have HR : Hid (X.all q.n = ((fstB q.n (emB q.n X.f)).isNone && (fstB q.n (idB q.n X.f)).isNone)) := rfl
  rw [HR.out]
  generalize fstB q.n (emB q.n X.f) = a at *
  generalize fstB q.n (idB q.n X.f) = b at *
  unfold QQ.ptr at *
  clear H hI h1 h2 HR
  cases a with
  | some k =>
    rw [show plZ (some k) = (k : Int) from rfl] at HE
    have hlt : decide ((k : Int) < 0) = false := by simp
    go_enter Tryz.func60, Tryz.ntmps60
    go_wp2_with fail
    refine HE.out.mono ?_
    rintro e w1 ⟨rfl, rfl⟩
    go_wp2
    go_returns
    exact ⟨rfl, by first | rfl | trivial⟩
  | none =>
    rw [show plZ none = -1 from rfl] at HE
    cases b with
    | some k =>
      rw [show plZ (some k) = (k : Int) from rfl] at HF
      have hlt : decide ((k : Int) < 0) = false := by simp
      go_enter Tryz.func60, Tryz.ntmps60
      go_wp2_with fail
      refine HE.out.mono ?_
      rintro e w1 ⟨rfl, rfl⟩
      go_wp2_with fail
      refine HF.out.mono ?_
      rintro e w1 ⟨rfl, rfl⟩
      go_wp2
      go_returns
      exact ⟨rfl, by first | rfl | trivial⟩
    | none =>
      rw [show plZ none = -1 from rfl] at HF
      go_enter Tryz.func60, Tryz.ntmps60
      go_wp2_with fail
      refine HE.out.mono ?_
      rintro e w1 ⟨rfl, rfl⟩
      go_wp2_with fail
      refine HF.out.mono ?_
      rintro e w1 ⟨rfl, rfl⟩
      go_wp2
      go_returns
      exact ⟨rfl, by first | rfl | trivial⟩
/-- held's two numbers. -/
def heZ (k : Nat × Nat) : Int × Nat := if k.2 = 0 then (k.1, 0) else (-1, k.2)
theorem qf_held (H : QI q z X m w F) (hI : Inv q.n X.f X.D) (id : Nat) : Calls Tryz.prog 65 #[q.ptr, .int .u32 id] w fun e w' => e = .returned (.tuple #[.int .i64 (heZ (X.held q.n id)).1, .int .i64 (heZ (X.held q.n id)).2]) ∧ w = w' := by
  obtain ⟨FD, av, h1, h2, h3, h4, h5, h6, h7⟩ := H
  have c0 : w.cell? ⟨q.pb, 0, none⟩ = some (.pointer (some ⟨q.rb, 0, none⟩)) := h1.ce 0 (by omega)
  have c1 : w.cell? ⟨q.pb, 1, none⟩ = some (.slice (some ⟨q.fb, 0, none⟩) q.n q.n) := h1.ce 1 (by omega)
  have lb := h1.hd.lt
  have lf := h1.fr.lt
  have hn := h1.hn
  have HH := Lib.hid (qd_has h2 id)
  have HF := Lib.hid (qf_frameZ h1 id)
  have KF : Hid (∀ k, k < q.n → w.cell? ⟨q.fb, k * 4 + 2, none⟩ = some (.int .i64 (X.f k).pins)) := fun k hk => (h1.cf hk).2.2.1
  unfold PS.held
  by_cases hh : X.D.has id = true
  · rw [if_pos hh]
    have h0 : ¬ id = 0 := by have := hI.pos hh; omega
    rw [hh] at HH
    unfold frZ at HF
    rw [if_neg h0] at HF
    cases hk : frm q.n X.f id with
    | none =>
      rw [hk, show plZ none = -1 from rfl] at HF
      unfold QQ.ptr at *
      clear h1 h2 h3 h4 h5 h6 h7 hI hh hk h0
      go_enter Tryz.func65, Tryz.ntmps65
      go_wp2_with fail
      refine HH.out.mono ?_
      rintro e w1 ⟨rfl, rfl⟩
      go_wp2_with fail
      refine HF.out.mono ?_
      rintro e w1 ⟨rfl, rfl⟩
      go_wp2
      go_returns
      exact ⟨rfl, by first | rfl | trivial⟩
    | some k =>
      obtain ⟨k1, _⟩ := frm_some hk
      rw [hk, show plZ (some k) = (k : Int) from rfl] at HF
      have cp := KF.out k k1
      have hlt : decide ((k : Int) < 0) = false := by simp
      dsimp only
      by_cases hp : (X.f k).pins = 0
      · rw [if_pos hp]
        rw [hp] at cp
        unfold QQ.ptr at *
        clear h1 h2 h3 h4 h5 h6 h7 hI hh hk h0 hp
        go_enter Tryz.func65, Tryz.ntmps65
        go_wp2_with fail
        refine HH.out.mono ?_
        rintro e w1 ⟨rfl, rfl⟩
        go_wp2_with fail
        refine HF.out.mono ?_
        rintro e w1 ⟨rfl, rfl⟩
        go_wp2
        go_returns
        exact ⟨rfl, by first | rfl | trivial⟩
      · rw [if_neg hp]
        have hne : (((X.f k).pins : Int) == 0) = false := by simp <;> exact hp
        generalize (X.f k).pins = xp at *
        unfold QQ.ptr at *
        clear h1 h2 h3 h4 h5 h6 h7 hI hh hk h0 hp
        go_enter Tryz.func65, Tryz.ntmps65
        go_wp2_with fail
        refine HH.out.mono ?_
        rintro e w1 ⟨rfl, rfl⟩
        go_wp2_with fail
        refine HF.out.mono ?_
        rintro e w1 ⟨rfl, rfl⟩
        go_wp2
        go_returns
        exact ⟨rfl, by first | rfl | trivial⟩
  · rw [if_neg hh]
    have hh' : X.D.has id = false := by simpa using hh
    rw [hh'] at HH
    unfold QQ.ptr at *
    clear h1 h2 h3 h4 h5 h6 h7 hI hh hh'
    go_enter Tryz.func65, Tryz.ntmps65
    go_wp2_with fail
    refine HH.out.mono ?_
    rintro e w1 ⟨rfl, rfl⟩
    go_wp2
    go_returns
    exact ⟨rfl, by first | rfl | trivial⟩
end
end Go.Proofs.YtnideelidfpicaaGreatDoor
namespace Go.Proofs.YtnideelidfpicaaGreatDoor
open Go.RowKit Go.Maps
set_option linter.unusedVariables false
set_option linter.unusedSimpArgs false
set_option linter.unusedSectionVars false
set_option maxRecDepth 100000
section
variable {τ : Type} {P : Adv τ} {RR : World → τ → (Nat → Prop) → Prop} {ok : Nat → τ → (Nat → Nat) → (Nat → Bool) → Prop} {p : PP} (S : RepSys P RR p.pb p.rv p.n ok) {w w' : World} {m : Nat} {F : Nat → Prop} {X : PS τ} {T : PT τ}
include S
set_option maxHeartbeats 2000000 in
theorem wr_yes (H : PW RR ok p X m w F) {id k v : Nat} (hu : id < 4294967296) (hv : v < 18446744073709551616) (hk : k < p.n) (hpl : plO p.n X.f X.D id = some (k : Int)) (hid : (X.f k).id = id) (h1 : 1 ≤ id) (hp : ¬ (X.f k).pins = 0) : Calls Tryz.prog 31 #[p.ptr, .int .u32 id, .int .u64 v] w fun e w' => e = .returned (.int .i64 0) ∧
    Led (PW RR ok p { X with f := upd X.f k { X.f k with val := v, dirty := true } } (m + 1)) F w w' := by
  have HA := Lib.hid (held_yes H.1.me hu hk hpl (by show ¬ (X.f k).pins = 0; omega))
  have lb := H.1.me.hd.lt
  have lf := H.1.me.fr.lt
  have c2 : w.cell? ⟨p.pb, 2, none⟩ = some (.slice (some ⟨p.fb, 0, none⟩) p.n p.n) := H.1.me.ce 2 (by omega)
  have hn := H.1.me.hn
  obtain ⟨e0, e1, e2, e3⟩ := H.1.me.cf hk
  have z1 := H.1.me.fr.frozen (k * 4 + 1)
  have z3 := H.1.me.fr.frozen (k * 4 + 3)
  have hbf := H.1.me.bd.2 k
  have hid0 : ¬ (X.f k).id = 0 := by omega
  have K1 : MP ((w.setCell ⟨p.fb, k * 4 + 1, none⟩ (.int .u64 v)).setCell ⟨p.fb, k * 4 + 3, none⟩ (.bool true)) p (upd X.f k { X.f k with val := v, dirty := true }) (CT p.n X).pl (CT p.n X).E (CT p.n X).I X.sc m ∧ Fr p.own w ((w.setCell ⟨p.fb, k * 4 + 1, none⟩ (.int .u64 v)).setCell ⟨p.fb, k * 4 + 3, none⟩ (.bool true)) := by
    obtain ⟨q1, q2⟩ := H.1.me.put1 (m' := m) (j := 1) hk { X.f k with val := v } (.int .u64 v) (frV_setv X.f k v) (Nat.le_refl _) ⟨hbf.1, hv, hbf.2.2⟩
    have he : upd (frV (upd X.f k { X.f k with val := v })) (k * 4 + 3) (.bool true) = frV (upd (upd X.f k { X.f k with val := v }) k { X.f k with val := v, dirty := true }) := by
      have := frV_setd (upd X.f k { X.f k with val := v }) k true
      rw [upd_same] at this
      exact this
    obtain ⟨q3, q4⟩ := q1.put1 (m' := m) (j := 3) hk { X.f k with val := v, dirty := true } (.bool true) he (Nat.le_refl _) ⟨hbf.1, hv, hbf.2.2⟩
    rw [upd_upd] at q3
    exact ⟨q3, (q2.trans q4 (fun i q => .inl q)).mono (fun i q => .inr (.inl q))⟩
  have K2 : MP ((w.setCell ⟨p.fb, k * 4 + 3, none⟩ (.bool true)).setCell ⟨p.fb, k * 4 + 1, none⟩ (.int .u64 v)) p (upd X.f k { X.f k with val := v, dirty := true }) (CT p.n X).pl (CT p.n X).E (CT p.n X).I X.sc m ∧ Fr p.own w ((w.setCell ⟨p.fb, k * 4 + 3, none⟩ (.bool true)).setCell ⟨p.fb, k * 4 + 1, none⟩ (.int .u64 v)) := by
    obtain ⟨q1, q2⟩ := H.1.me.put1 (m' := m) (j := 3) hk { X.f k with dirty := true } (.bool true) (frV_setd X.f k true) (Nat.le_refl _) ⟨hbf.1, hbf.2.1, hbf.2.2⟩
    have he : upd (frV (upd X.f k { X.f k with dirty := true })) (k * 4 + 1) (.int .u64 (v : Nat)) = frV (upd (upd X.f k { X.f k with dirty := true }) k { X.f k with val := v, dirty := true }) := by
      have := frV_setv (upd X.f k { X.f k with dirty := true }) k v
      rw [upd_same] at this
      exact this
    obtain ⟨q3, q4⟩ := q1.put1 (m' := m) (j := 1) hk { X.f k with val := v, dirty := true } (.int .u64 v) he (Nat.le_refl _) ⟨hbf.1, hv, hbf.2.2⟩
    rw [upd_upd] at q3
    exact ⟨q3, (q2.trans q4 (fun i q => .inl q)).mono (fun i q => .inr (.inl q))⟩
  have KP : Hid (∀ wf, (wf = ((w.setCell ⟨p.fb, k * 4 + 1, none⟩ (.int .u64 v)).setCell ⟨p.fb, k * 4 + 3, none⟩ (.bool true)).drew ∨ wf = ((w.setCell ⟨p.fb, k * 4 + 3, none⟩ (.bool true)).setCell ⟨p.fb, k * 4 + 1, none⟩ (.int .u64 v)).drew) → Led (PW RR ok p { X with f := upd X.f k { X.f k with val := v, dirty := true } } (m + 1)) F w wf) := fun wf hw => by
    rcases hw with rfl | rfl
    · exact cell_pw S H hk hid0 rfl rfl hv ((K1.1.more (Nat.le_succ m)).fr0 ((Fr.refl NoF _).drew)) K1.2.drew
    · exact cell_pw S H hk hid0 rfl rfl hv ((K2.1.more (Nat.le_succ m)).fr0 ((Fr.refl NoF _).drew)) K2.2.drew
  rw [show (CT p.n X).f = X.f from rfl] at e0 e1 e2 e3
  generalize (X.f k).val = xv at *
  generalize (X.f k).dirty = xd at *
  unfold PP.ptr at *
  clear H S hu hpl hid h1 hp hbf hid0 K1 K2 hv e0 e2
  go_enter Tryz.func31, Tryz.ntmps31
  go_wp2_with fail
  refine HA.out.mono ?_
  rintro e w1 ⟨rfl, rfl⟩
  go_wp2_with fail
  go_region
  all_goals
    go_wp2
    go_returns
    exact ⟨rfl, KP.out _ (by first | exact .inl rfl | exact .inr rfl)⟩
theorem wr_no (H : PW RR ok p X m w F) {id e0 v : Nat} (hu : id < 4294967296) (h0 : ¬ e0 = 0) (hh : HeldNo p.n X.f (plO p.n X.f X.D) id e0) : Calls Tryz.prog 31 #[p.ptr, .int .u32 id, .int .u64 v] w fun e w' => e = .returned (.int .i64 e0) ∧ w = w' := by
  have HA := Lib.hid (held_no H.1.me hu hh)
  have hne : (((e0 : Nat) : Int) == 0) = false := by simp <;> exact h0
  unfold PP.ptr at *
  clear H S hh hu
  go_enter Tryz.func31, Tryz.ntmps31
  go_wp2_with fail
  refine HA.out.mono ?_
  rintro e w1 ⟨rfl, rfl⟩
  go_wp2
  go_returns
  exact ⟨rfl, rfl⟩
theorem wr_calls (H : PW RR ok p X m w F) {id v : Nat} (hu : id < 4294967296) (hv : v < 18446744073709551616) : Calls Tryz.prog 31 #[p.ptr, .int .u32 id, .int .u64 v] w fun e w' => e = .returned (.int .i64 (X.write p.n id v).1) ∧ Led (PW RR ok p (X.write p.n id v).2 (m + 10)) F w w' := by
  unfold PS.write
  rcases held_case H.2.1 id with ⟨h0, h1, h2, h3, h4, h5, h6, h7⟩ | ⟨h0, h1⟩
  · rw [if_pos h0]
    refine (wr_yes S H hu hv h1 h2 h4 h5 h3).mono ?_
    rintro e w' ⟨he, hl⟩
    exact ⟨he, hl.mono (fun F' h => h.more S (by omega))⟩
  · rw [if_neg h0]
    refine (wr_no S H hu h0 h1).mono ?_
    rintro e w' ⟨he, rfl⟩
    exact ⟨he, Led.refl (H.more S (by omega))⟩
/-- clean, of a whole pool. -/
theorem clean_pw (H : PW RR ok p X m w F) (hm : m < 70000) {k : Nat} (hk : k < p.n) (h0 : (X.f k).dirty = true → ¬ (X.f k).id = 0) : Calls Tryz.prog 66 #[p.ptr, .int .i64 k] w fun e w' => e = .returned (.int .i64 (X.clean k).1) ∧ Led (PW RR ok p (X.clean k).2 (m + 1)) F w w' := by
  unfold PS.clean
  by_cases hd : (X.f k).dirty = true
  · rw [if_pos hd]
    have hid0 := h0 hd
    by_cases he : (X.D.write (X.f k).id (X.f k).val).1 = 0
    · rw [if_pos he]
      refine (pi_clean_ok S H.1 (by omega) hk hd he).mono ?_
      rintro e w' ⟨he', hl⟩
      refine ⟨he', hl.mono (fun F' h' => ?_)⟩
      dsimp only [CT] at h'
      have hw : PW RR ok p { X with f := upd X.f k { X.f k with dirty := false }, D := (X.D.write (X.f k).id (X.f k).val).2 } (m + 1) w' F' := ⟨by
        unfold CT
        dsimp only
        rw [plO_D (fun x => RS.write_has _ _ _ x), plO_same (x := { X.f k with dirty := false }) hk rfl, emB_upd hk, idB_upd hk, updB_id (emB_at hk), updB_id (idB_at hk)]
        exact h', (H.2.1.keep (x := { X.f k with dirty := false }) hk rfl hid0 (H.2.1.vf k hk)).write _ (H.2.1.vf k hk), by
        show ok (m + 1) X.A (pgO (upd X.f k { X.f k with dirty := false })) (evO (upd X.f k { X.f k with dirty := false }))
        rw [pgO_upd, evO_upd]
        refine S.same (S.more H.2.2 (Nat.le_succ m)) (fun i hi => ?_) (fun i hi q => ?_)
        · by_cases e : i = k
          · rw [e, upd_same]; rfl
          · rw [upd_other _ _ e]
        · by_cases e : i = k
          · rw [e, upd_same]; rfl
          · rw [upd_other _ _ e]⟩
      exact hw
    · rw [if_neg he]
      refine (pi_clean_err S H.1 (by omega) hk hd he).mono ?_
      rintro e w' ⟨he', hl⟩
      refine ⟨he', hl.mono (fun F' h' => ?_)⟩
      dsimp only [CT] at h'
      have hw : PW RR ok p { X with D := (X.D.write (X.f k).id (X.f k).val).2 } (m + 1) w' F' := ⟨by
        unfold CT
        dsimp only
        rw [plO_D (fun x => RS.write_has _ _ _ x)]
        exact h', H.2.1.write _ (H.2.1.vf k hk), S.more H.2.2 (Nat.le_succ m)⟩
      exact hw
  · rw [if_neg hd]
    refine (pi_clean_no S H.1 hk (Bool.eq_false_iff.2 hd)).mono ?_
    rintro e w' ⟨he', hl⟩
    exact ⟨he', hl.mono (fun F' h' => PW.more S (⟨h', H.2⟩ : PW RR ok p X m w' F') (by omega))⟩
set_option maxHeartbeats 1000000 in
theorem fl_calls (H : PW RR ok p X m w F) (hm : m < 60000) {id : Nat} (hu : id < 4294967296) : Calls Tryz.prog 33 #[p.ptr, .int .u32 id] w fun e w' => e = .returned (.int .i64 (X.flush p.n id).1) ∧ Led (PW RR ok p (X.flush p.n id).2 (m + 10)) F w w' := by
  unfold PS.flush
  by_cases hh : X.D.has id = true
  · rw [if_pos hh]
    cases hk : frm p.n X.f id with
    | none =>
      dsimp only
      have HA := Lib.hid (find_some H.1.me hu (plO_out hh hk))
      have HL := Lib.hid (Led.refl (H.more S (show m ≤ m + 10 by omega)))
      unfold PP.ptr at *
      clear H S hu hh hk
      go_enter Tryz.func33, Tryz.ntmps33
      go_wp2_with fail
      refine HA.out.mono ?_
      rintro e w1 ⟨rfl, rfl⟩
      go_wp2
      go_returns
      exact ⟨rfl, HL.out⟩
    | some k =>
      dsimp only
      obtain ⟨h1, h2, h3⟩ := H.2.1.fpos hh hk
      have HA := Lib.hid (find_some H.1.me hu (plO_some hh hk))
      have HC := Lib.hid ((clean_pw S H (by omega) h1 (fun _ => by omega)).mono (fun e w' ⟨he, hl⟩ => (⟨he, hl.mono (fun F' h => h.more S (by omega))⟩ : e = Ending.returned (.int .i64 (X.clean k).1) ∧ Led (PW RR ok p (X.clean k).2 (m + 10)) F w w')))
      have hne : ((k : Int) == (-1)) = false := by simp <;> omega
      generalize X.clean k = R at *
      unfold PP.ptr at *
      clear H S hu hh hk h2
      go_enter Tryz.func33, Tryz.ntmps33
      go_wp2_with fail
      refine HA.out.mono ?_
      rintro e w1 ⟨rfl, rfl⟩
      go_wp2_with fail
      refine HC.out.mono ?_
      rintro e w1 ⟨rfl, hl⟩
      have HL := Lib.hid hl
      clear hl
      go_wp2
      go_returns
      exact ⟨rfl, HL.out⟩
  · rw [if_neg hh]
    have HA := Lib.hid (find_none H.1.me hu (plO_none (by simpa using hh)))
    have HL := Lib.hid (Led.refl (H.more S (show m ≤ m + 10 by omega)))
    unfold PP.ptr at *
    clear H S hu hh
    go_enter Tryz.func33, Tryz.ntmps33
    go_wp2_with fail
    refine HA.out.mono ?_
    rintro e w1 ⟨rfl, rfl⟩
    go_wp2
    go_returns
    exact ⟨rfl, HL.out⟩
end
end Go.Proofs.YtnideelidfpicaaGreatDoor
namespace Go.Proofs.YtnideelidfpicaaGreatDoor
open Go.RowKit Go.Maps
set_option linter.unusedVariables false
set_option linter.unusedSimpArgs false
set_option linter.unusedSectionVars false
set_option maxRecDepth 100000
section
variable {τ : Type} {P : Adv τ} {RR : World → τ → (Nat → Prop) → Prop} {ok : Nat → τ → (Nat → Nat) → (Nat → Bool) → Prop} {p : PP} (S : RepSys P RR p.pb p.rv p.n ok) {w w' : World} {m : Nat} {F : Nat → Prop} {X : PS τ} {T : PT τ}
theorem plO_free {n : Nat} {f : Nat → FrS} {D : RS} {id : Nat} (hI : ∃ s, DRel s D) (hh : D.has id = true) : plO n f (D.free id).2 = updO (plO n f D) id none := by
  obtain ⟨s, hs⟩ := hI
  funext y
  by_cases e : y = id
  · rw [e, updO_same]
    exact plO_none (by rw [hs.free_has hh]; simp)
  · rw [updO_other _ _ e]
    unfold plO
    rw [hs.free_has hh, decide_eq_true e, Bool.true_and]
include S
/-- What Delete does last. -/
theorem del_last (H : PW RR ok p X m w F) {id : Nat} (hu : id < 4294967296) (hh : X.D.has id = true) (hno : ∀ i, i < p.n → ¬ (X.f i).id = id) (ty : TypeId) : ∃ w1, (Builtin.delete_ #[65, 43] ty #[.map (some p.mb), .int .u32 (id : Nat)]).run Tryz.prog w = .ok (.tuple #[]) w1 ∧ Led (PI RR p { CT p.n X with pl := updO (plO p.n X.f X.D) id none } m) F w w1 ∧
    (∀ w2 F2, PI RR p { CT p.n X with pl := updO (plO p.n X.f X.D) id none } m w2 F2 → Calls Tryz.prog 53 #[.pointer (some ⟨p.db, 0, none⟩), .int .u32 id] w2 fun e w' => e = .returned (.int .i64 0) ∧ Led (PW RR ok p { X with D := (X.D.free id).2 } m) F2 w2 w') := by
  obtain ⟨w1, r1, h1, g1⟩ := H.1.me.del hu ty
  refine ⟨w1, r1, H.1.set h1 (g1.mono (fun i q => .inr (.inr (.inl q)))) (Nat.le_refl _) S, fun w2 F2 h2 => ?_⟩
  refine (h2.free S hu).mono ?_
  rintro e w' ⟨he, hl⟩
  obtain ⟨s, hs⟩ := H.2.1.dr
  have e0 : (X.D.free id).1 = 0 := (hs.free_yes (by rw [← hs.hasE]; exact hh)).1
  refine ⟨by rw [he]; show Ending.returned (.int .i64 ((X.D.free id).1 : Nat)) = _; rw [e0]; rfl, hl.mono (fun F' h' => ?_)⟩
  dsimp only [CT] at h'
  have hw : PW RR ok p { X with D := (X.D.free id).2 } m w' F' := ⟨by
    unfold CT
    dsimp only
    rw [plO_free H.2.1.dr hh]
    exact h', H.2.1.free hno, H.2.2⟩
  exact hw
set_option maxHeartbeats 2000000 in
theorem de_in (H : PW RR ok p X m w F) (hm : m < 60000) {id k : Nat} (hu : id < 4294967296) (hh : X.D.has id = true) (hk : frm p.n X.f id = some k) (hp : (X.f k).pins = 0) : Calls Tryz.prog 37 #[p.ptr, .int .u32 id] w fun e w' => e = .returned (.int .i64 0) ∧ Led (PW RR ok p { X with f := upd X.f k zF, D := (X.D.free id).2, A := P.remove X.A k } (m + 1)) F w w' := by
  obtain ⟨h1, h2, h3⟩ := H.2.1.fpos hh hk
  have HA := Lib.hid (find_some H.1.me hu (plO_some hh hk))
  have HR := Lib.hid (remove_pw S H (by omega) h1 (by omega))
  have hno : ∀ i, i < p.n → ¬ (upd X.f k zF i).id = id := fun i hi q => by
    by_cases e : i = k
    · rw [e, upd_same] at q; exact absurd q (by show ¬ 0 = id; omega)
    · rw [upd_other _ _ e] at q; exact e (H.2.1.inj i k hi h1 (by omega) (by rw [q, h2]))
  have KD : Hid (∀ (ty : TypeId) w1 F1, PW RR ok p { X with f := upd X.f k zF, A := P.remove X.A k } (m + 1) w1 F1 → _) := fun ty w1 F1 h => del_last S (w := w1) (F := F1) h hu hh hno ty
  have KC : Hid (∀ w1 F1, PW RR ok p { X with f := upd X.f k zF, A := P.remove X.A k } (m + 1) w1 F1 → p.pb < w1.heap.size ∧ w1.cell? ⟨p.pb, 3, none⟩ = some (.map (some p.mb))) := fun w1 F1 h => ⟨h.1.me.hd.lt, h.1.me.ce 3 (by omega)⟩
  have KC0 : Hid (∀ w1 F1 T j, PI RR p T j w1 F1 → w1.cell? ⟨p.pb, 0, none⟩ = some (.pointer (some ⟨p.db, 0, none⟩)) ∧ p.pb < w1.heap.size) := fun w1 F1 T j h => h.c0
  have c2 : w.cell? ⟨p.pb, 2, none⟩ = some (.slice (some ⟨p.fb, 0, none⟩) p.n p.n) := H.1.me.ce 2 (by omega)
  have hn := H.1.me.hn
  have lb := H.1.me.hd.lt
  have lf := H.1.me.fr.lt
  obtain ⟨_, _, cp, _⟩ := H.1.me.cf h1
  rw [show (CT p.n X).f = X.f from rfl, hp] at cp
  have hne : ((k : Int) == (-1)) = false := by simp <;> omega
  unfold PP.ptr at *
  clear H S hh hk h2 hp hno h3
  have HU := Lib.hid hu
  clear hu
  go_enter Tryz.func37, Tryz.ntmps37
  go_wp2_with fail
  refine HA.out.mono ?_
  rintro e w1 ⟨rfl, rfl⟩
  go_wp2_with fail
  refine HR.out.mono ?_
  rintro e w1 ⟨rfl, F1, g1, f1, k1⟩
  obtain ⟨x1, x2⟩ := KC.out w1 F1 g1
  obtain ⟨w2, r2, ⟨F2, g2, f2, k2⟩, hfree⟩ := KD.out 0 w1 F1 g1
  obtain ⟨x3, x4⟩ := KC0.out w2 F2 _ _ g2
  have HFR := Lib.hid (hfree w2 F2 g2)
  have FF1 := Lib.hid f1
  have KK1 := Lib.hid k1
  have FF2 := Lib.hid f2
  have KK2 := Lib.hid k2
  clear g1 f1 k1 g2 f2 k2 hfree KD KC KC0 HR
  go_wp2_with fail
  refine HFR.out.mono ?_
  rintro e w3 ⟨rfl, hl⟩
  have HL := Lib.hid hl
  clear hl
  go_wp2
  go_returns
  exact ⟨rfl, Led.trans (R := fun _ _ => True) FF1.out KK1.out (Led.trans (R := fun _ _ => True) FF2.out KK2.out HL.out)⟩
set_option maxHeartbeats 2000000 in
theorem de_out (H : PW RR ok p X m w F) {id : Nat} (hu : id < 4294967296) (hh : X.D.has id = true) (hk : frm p.n X.f id = none) : Calls Tryz.prog 37 #[p.ptr, .int .u32 id] w fun e w' => e = .returned (.int .i64 0) ∧ Led (PW RR ok p { X with D := (X.D.free id).2 } m) F w w' := by
  have HA := Lib.hid (find_some H.1.me hu (plO_out hh hk))
  have c3 : w.cell? ⟨p.pb, 3, none⟩ = some (.map (some p.mb)) := H.1.me.ce 3 (by omega)
  have lb := H.1.me.hd.lt
  obtain ⟨w2, r2, ⟨F2, g2, f2, k2⟩, hfree⟩ := del_last S H hu hh (frm_none hk) 0
  obtain ⟨x3, x4⟩ := g2.c0
  have HFR := Lib.hid (hfree w2 F2 g2)
  have FF2 := Lib.hid f2
  have KK2 := Lib.hid k2
  unfold PP.ptr at *
  clear H S hh hk g2 f2 k2 hfree
  have HU := Lib.hid hu
  clear hu
  go_enter Tryz.func37, Tryz.ntmps37
  go_wp2_with fail
  refine HA.out.mono ?_
  rintro e w1 ⟨rfl, rfl⟩
  go_wp2_with fail
  refine HFR.out.mono ?_
  rintro e w3 ⟨rfl, hl⟩
  have HL := Lib.hid hl
  clear hl
  go_wp2
  go_returns
  exact ⟨rfl, Led.trans (R := fun _ _ => True) FF2.out KK2.out HL.out⟩
theorem de_no (H : PW RR ok p X m w F) {id : Nat} (hu : id < 4294967296) (hh : X.D.has id = false) : Calls Tryz.prog 37 #[p.ptr, .int .u32 id] w fun e w' => e = .returned (.int .i64 3) ∧ w = w' := by
  have HA := Lib.hid (find_none H.1.me hu (plO_none hh))
  unfold PP.ptr at *
  clear H S hh hu
  go_enter Tryz.func37, Tryz.ntmps37
  go_wp2_with fail
  refine HA.out.mono ?_
  rintro e w1 ⟨rfl, rfl⟩
  go_wp2
  go_returns
  exact ⟨rfl, rfl⟩
theorem de_pin (H : PW RR ok p X m w F) {id k : Nat} (hu : id < 4294967296) (hh : X.D.has id = true) (hk : frm p.n X.f id = some k) (hp : ¬ (X.f k).pins = 0) : Calls Tryz.prog 37 #[p.ptr, .int .u32 id] w fun e w' => e = .returned (.int .i64 4) ∧ w = w' := by
  obtain ⟨h1, h2, h3⟩ := H.2.1.fpos hh hk
  have HA := Lib.hid (find_some H.1.me hu (plO_some hh hk))
  have c2 : w.cell? ⟨p.pb, 2, none⟩ = some (.slice (some ⟨p.fb, 0, none⟩) p.n p.n) := H.1.me.ce 2 (by omega)
  have hn := H.1.me.hn
  have lb := H.1.me.hd.lt
  have lf := H.1.me.fr.lt
  obtain ⟨_, _, cp, _⟩ := H.1.me.cf h1
  rw [show (CT p.n X).f = X.f from rfl] at cp
  have hgt : decide (((X.f k).pins : Int) > 0) = true := decide_eq_true (by omega)
  have hgt2 : decide (0 < ((X.f k).pins : Int)) = true := decide_eq_true (by omega)
  have hgt3 : decide (0 < (X.f k).pins) = true := decide_eq_true (by omega)
  have hgt4 : 0 < (X.f k).pins := by omega
  have hgt5 : (0 : Int) < ((X.f k).pins : Int) := by omega
  have hne : ((k : Int) == (-1)) = false := by simp <;> omega
  generalize (X.f k).pins = q at *
  unfold PP.ptr at *
  clear H S hh hu hk h2 hp h3
  go_enter Tryz.func37, Tryz.ntmps37
  go_wp2_with fail
  refine HA.out.mono ?_
  rintro e w1 ⟨rfl, rfl⟩
  go_wp2
  go_returns
  exact ⟨rfl, rfl⟩
theorem de_calls (H : PW RR ok p X m w F) (hm : m < 60000) {id : Nat} (hu : id < 4294967296) : Calls Tryz.prog 37 #[p.ptr, .int .u32 id] w fun e w' => e = .returned (.int .i64 (X.delete P p.n id).1) ∧ Led (PW RR ok p (X.delete P p.n id).2 (m + 10)) F w w' := by
  unfold PS.delete
  by_cases hh : X.D.has id = true
  · rw [if_pos hh]
    cases hk : frm p.n X.f id with
    | none =>
      dsimp only
      exact (de_out S H hu hh hk).mono fun e w' ⟨he, hl⟩ => ⟨he, hl.mono (fun F' h => h.more S (by omega))⟩
    | some k =>
      dsimp only
      by_cases hp : (X.f k).pins = 0
      · rw [if_pos hp]
        exact (de_in S H hm hu hh hk hp).mono fun e w' ⟨he, hl⟩ => ⟨he, hl.mono (fun F' h => h.more S (by omega))⟩
      · rw [if_neg hp]
        refine (de_pin S H hu hh hk hp).mono ?_
        rintro e w' ⟨he, rfl⟩
        exact ⟨he, Led.refl (H.more S (by omega))⟩
  · rw [if_neg hh]
    refine (de_no S H hu (by simpa using hh)).mono ?_
    rintro e w' ⟨he, rfl⟩
    exact ⟨he, Led.refl (H.more S (by omega))⟩
end
end Go.Proofs.YtnideelidfpicaaGreatDoor
namespace Go.Proofs.YtnideelidfpicaaGreatDoor
open Go.RowKit
set_option linter.unusedVariables false
set_option linter.unusedSimpArgs false
set_option linter.unusedSectionVars false
set_option maxRecDepth 100000
section
variable {w w' : World} {q : QQ} {f f' : Nat → FrS} {l : List Int} {sc m m' z rb : Nat} {av : Value} {X : PS (List Int)} {F : Nat → Prop} {r : RS}
theorem QM.frs (H : QM w q f l sc m av) (hb : Blk w' q.fb (q.n * 4) (frV f')) (g : Fr (fun i => i = q.fb) w w') (hm : m ≤ m') (hk : ∀ i, (f' i).id < 4294967296 ∧ (f' i).val < 18446744073709551616 ∧ (f' i).pins ≤ m') : QM w' q f' l sc m' av :=
  ⟨H.hd.fr g (fun k => H.d1 k.symm), hb, SlC.fr H.ad g (fun b e k => (H.d2 b e).2 k), H.d1, H.d2, H.hn, by have := H.bd.1; omega, hk⟩
theorem QM.put1 (H : QM w q f l sc m av) {k j : Nat} (hk : k < q.n) (x : FrS) (u : Value) (he : upd (frV f) (k * 4 + j) u = frV (upd f k x)) (hm : m ≤ m') (hx : x.id < 4294967296 ∧ x.val < 18446744073709551616 ∧ x.pins ≤ m') :
    QM (w.setCell ⟨q.fb, k * 4 + j, none⟩ u) q (upd f k x) l sc m' av ∧ Fr (fun i => i = q.fb) w (w.setCell ⟨q.fb, k * 4 + j, none⟩ u) := by
  have g : Fr (fun i => i = q.fb) w (w.setCell ⟨q.fb, k * 4 + j, none⟩ u) := (Fr.refl (fun i => i = q.fb) w).setCell (p := ⟨q.fb, _, none⟩) (.inl rfl) _
  refine ⟨H.frs (by rw [← he]; exact H.fr.set _ _) g hm (fun i => ?_), g⟩
  by_cases e : i = k
  · subst e; rw [upd_same]; exact hx
  · rw [upd_other _ _ e]; have := H.bd.2 i; exact ⟨this.1, this.2.1, by omega⟩
theorem QM.put4 (H : QM w q f l sc m av) {k : Nat} (hk : k < q.n) (x : FrS) (hx : x.id < 4294967296 ∧ x.val < 18446744073709551616 ∧ x.pins ≤ m) {w' : World} (hw : w' = (((w.setCell ⟨q.fb, k * 4, none⟩ (.int .u32 (x.id : Nat))).setCell ⟨q.fb, k * 4 + 1, none⟩ (.int .u64 (x.val : Nat))).setCell ⟨q.fb, k * 4 + 2, none⟩ (.int .i64 (x.pins : Nat))).setCell ⟨q.fb, k * 4 + 3, none⟩ (.bool x.dirty)) :
    QM w' q (upd f k x) l sc m av ∧ Fr (fun i => i = q.fb) w w' := by
  subst hw
  have g : Fr (fun i => i = q.fb) w ((((w.setCell ⟨q.fb, k * 4, none⟩ (.int .u32 (x.id : Nat))).setCell ⟨q.fb, k * 4 + 1, none⟩ (.int .u64 (x.val : Nat))).setCell ⟨q.fb, k * 4 + 2, none⟩ (.int .i64 (x.pins : Nat))).setCell ⟨q.fb, k * 4 + 3, none⟩ (.bool x.dirty)) :=
    ((((Fr.refl (fun i => i = q.fb) w).setCell (p := ⟨q.fb, _, none⟩) (.inl rfl) _).setCell (p := ⟨q.fb, _, none⟩) (.inl rfl) _).setCell (p := ⟨q.fb, _, none⟩) (.inl rfl) _).setCell (p := ⟨q.fb, _, none⟩) (.inl rfl) _
  refine ⟨H.frs (by rw [← frV_all]; exact (((H.fr.set _ _).set _ _).set _ _).set _ _) g (Nat.le_refl _) (fun i => ?_), g⟩
  by_cases e : i = k
  · subst e; rw [upd_same]; exact hx
  · rw [upd_other _ _ e]; exact H.bd.2 i
/-- The frames are written. -/
theorem QI.cells (H : QI q z X m w F) (hm : m ≤ m') (h : ∀ av, QM w q X.f X.A X.sc m av → QM w' q f' X.A X.sc m' av) (g : Fr (fun i => i = q.fb) w w') : Led (QI q z { X with f := f' } m') F w w' := by
  obtain ⟨FD, av, h1, h2, h3, h4, h5, h6, h7⟩ := H
  exact ⟨F, ⟨FD, av, h av h1, (h2.fr g (fun i k e => h3.2 (by rw [← e]; exact k))).more hm, h3, h4, h5, h6, by have := g.size; omega⟩, g.mono (fun i k => (h5 i).2 (.inr (.inl k))), fun i k => .inl k⟩
theorem pins_eq {n : Nat} (hI : Inv n X.f X.D) (id : Nat) : X.pins n id = match (if id = 0 then none else frm n X.f id) with | none => 0 | some k => (X.f k).pins := by
  unfold PS.pins PS.held
  by_cases h0 : id = 0
  · subst h0
    have : ¬ X.D.has 0 = true := fun e => by have := hI.pos e; omega
    rw [if_neg this]; rfl
  · rw [if_neg h0]
    by_cases hh : X.D.has id = true
    · rw [if_pos hh]
      cases hk : frm n X.f id with
      | none => rfl
      | some k =>
        dsimp only
        by_cases hp : (X.f k).pins = 0
        · simp [hp]
        · simp [hp]
    · rw [if_neg hh]
      cases e : frm n X.f id with
      | none => rfl
      | some k =>
        obtain ⟨h1, h2⟩ := frm_some e
        exact absurd (by have := hI.has k h1 (by omega); rwa [h2] at this) hh
theorem qf_pins (H : QM w q X.f l sc m av) (hI : Inv q.n X.f X.D) (id : Nat) : Calls Tryz.prog 16 #[q.ptr, .int .u32 id] w fun e w' => e = .returned (.int .i64 (X.pins q.n id)) ∧ w = w' := by
  have c1 : w.cell? ⟨q.pb, 1, none⟩ = some (.slice (some ⟨q.fb, 0, none⟩) q.n q.n) := H.ce 1 (by omega)
  have lb := H.hd.lt
  have lf := H.fr.lt
  have hn := H.hn
  have HF := Lib.hid (qf_frameZ H id)
  have KF : Hid (∀ k, k < q.n → w.cell? ⟨q.fb, k * 4 + 2, none⟩ = some (.int .i64 (X.f k).pins)) := fun k hk => (H.cf hk).2.2.1
  rw [pins_eq hI id]
  unfold frZ at HF
  have he : ∀ o : Option Nat, o = (if id = 0 then none else frm q.n X.f id) → (if id = 0 then (-1 : Int) else plZ (frm q.n X.f id)) = plZ o := fun o ho => by
    subst ho
    by_cases h0 : id = 0
    · rw [if_pos h0, if_pos h0]; rfl
    · rw [if_neg h0, if_neg h0]
  have hlt : ∀ k, (if id = 0 then none else frm q.n X.f id) = some k → k < q.n := fun k hk => by
    by_cases h0 : id = 0
    · rw [if_pos h0] at hk; cases hk
    · rw [if_neg h0] at hk; exact (frm_some hk).1
  rw [he _ rfl] at HF
  generalize (if id = 0 then none else frm q.n X.f id) = o at *
  unfold QQ.ptr at *
  clear H he hI
  cases o with
  | none =>
    rw [show plZ none = -1 from rfl] at HF
    dsimp only
    clear hlt
    go_enter Tryz.func16, Tryz.ntmps16
    go_wp2_with fail
    refine HF.out.mono ?_
    rintro e w1 ⟨rfl, rfl⟩
    go_wp2
    go_returns
    exact ⟨rfl, by first | rfl | trivial⟩
  | some k =>
    rw [show plZ (some k) = (k : Int) from rfl] at HF
    dsimp only
    have hk := hlt k rfl
    have cp := KF.out k hk
    have hd : decide ((k : Int) < 0) = false := by simp
    generalize (X.f k).pins = xp at *
    clear hlt
    go_enter Tryz.func16, Tryz.ntmps16
    go_wp2_with fail
    refine HF.out.mono ?_
    rintro e w1 ⟨rfl, rfl⟩
    go_wp2
    go_returns
    exact ⟨rfl, by first | rfl | trivial⟩
theorem qf_read (H : QI q z X m w F) (hI : Inv q.n X.f X.D) (id : Nat) : Calls Tryz.prog 30 #[q.ptr, .int .u32 id] w fun e w' => e = .returned (.tuple #[.int .u64 (X.read q.n id).1, .int .i64 (X.read q.n id).2]) ∧ w = w' := by
  have HH := qf_held H hI id
  obtain ⟨av, h1⟩ := H.qm
  have c1 : w.cell? ⟨q.pb, 1, none⟩ = some (.slice (some ⟨q.fb, 0, none⟩) q.n q.n) := h1.ce 1 (by omega)
  have lb := h1.hd.lt
  have lf := h1.fr.lt
  have hn := h1.hn
  unfold PS.read
  unfold heZ at HH
  rcases held_case hI id with ⟨h0, k1, k2, k3, k4, k5, k6, k7⟩ | ⟨h0, _⟩
  · rw [if_pos h0] at HH ⊢
    have cv := (h1.cf k1).2.1
    generalize (X.held q.n id).1 = k at *
    generalize (X.f k).val = xv at *
    have HC := Lib.hid HH
    unfold QQ.ptr at *
    clear H h1 hI HH h0 k2 k3 k4 k5 k6 k7
    go_enter Tryz.func30, Tryz.ntmps30
    go_wp2_with fail
    refine HC.out.mono ?_
    rintro e w1 ⟨rfl, rfl⟩
    go_wp2
    go_returns
    exact ⟨rfl, by first | rfl | trivial⟩
  · rw [if_neg h0] at HH ⊢
    have hne : ((((X.held q.n id).2 : Nat) : Int) == 0) = false := by simp <;> exact h0
    generalize (X.held q.n id).2 = e0 at *
    have HC := Lib.hid HH
    unfold QQ.ptr at *
    clear H h1 hI HH h0
    go_enter Tryz.func30, Tryz.ntmps30
    go_wp2_with fail
    refine HC.out.mono ?_
    rintro e w1 ⟨rfl, rfl⟩
    go_wp2
    go_returns
    exact ⟨rfl, by first | rfl | trivial⟩
set_option maxHeartbeats 2000000 in
theorem qf_unpin (H : QI q z X m w F) (hI : Inv q.n X.f X.D) (hm : m < 80000) (id : Nat) : Calls Tryz.prog 28 #[q.ptr, .int .u32 id] w fun e w' => e = .returned (.int .i64 (X.unpin advP q.n id).1) ∧ Led (QI q z (X.unpin advP q.n id).2 m) F w w' := by
  have HH := qf_held H hI id
  have H0 := H
  obtain ⟨av, h1⟩ := H.qm
  have c1 : w.cell? ⟨q.pb, 1, none⟩ = some (.slice (some ⟨q.fb, 0, none⟩) q.n q.n) := h1.ce 1 (by omega)
  have lb := h1.hd.lt
  have lf := h1.fr.lt
  have hn := h1.hn
  unfold PS.unpin
  unfold heZ at HH
  rcases held_case hI id with ⟨h0, k1, k2, k3, k4, k5, k6, k7⟩ | ⟨h0, _⟩
  · rw [if_pos h0] at HH ⊢
    have cv := (h1.cf k1).2.2.1
    have hz := h1.fr.frozen ((X.held q.n id).1 * 4 + 2)
    have hb := h1.bd.2 (X.held q.n id).1
    generalize (X.held q.n id).1 = k at *
    have KP : Hid (∀ zz : Int, zz = (((X.f k).pins - 1 : Nat) : Int) → Led (QI q z { X with f := upd X.f k { X.f k with pins := (X.f k).pins - 1 } } m) F w (w.setCell ⟨q.fb, k * 4 + 2, none⟩ (.int .i64 zz)).drew) := fun zz hzz => by
      subst hzz
      have g : Fr (fun i => i = q.fb) w (w.setCell ⟨q.fb, k * 4 + 2, none⟩ (.int .i64 (((X.f k).pins - 1 : Nat) : Int))).drew := ((Fr.refl (fun i => i = q.fb) w).setCell (p := ⟨q.fb, _, none⟩) (.inl rfl) _).drew
      have := H.cells (Nat.le_refl m) (f' := upd X.f k { X.f k with pins := (X.f k).pins - 1 }) (fun av h => ((h.put1 (m' := m) (j := 2) k1 { X.f k with pins := (X.f k).pins - 1 } (.int .i64 (((X.f k).pins - 1 : Nat) : Int)) (frV_setp X.f k _) (Nat.le_refl _) ⟨hb.1, hb.2.1, Nat.le_trans (Nat.sub_le _ _) hb.2.2⟩).1).fr0 ((Fr.refl NoF _).drew)) g
      exact this
    rw [show (if (X.f k).pins = 1 then advP.set X.A k true else X.A) = X.A from by split <;> rfl]
    have hp1 : 1 ≤ (X.f k).pins := by omega
    have hpm : (X.f k).pins < 900000 := by omega
    generalize (X.f k).pins = xp at *
    have HC := Lib.hid HH
    unfold QQ.ptr at *
    clear H h1 hI HH h0 k2 k3 k4 k5 k6 k7 hb H0
    have hcw : IntKind.i64.wrap ((xp : Int) - 1) = (xp : Int) - 1 := IntWalk.i64_in _ (by omega)
    go_enter Tryz.func28, Tryz.ntmps28
    go_wp2_with fail
    refine HC.out.mono ?_
    rintro e w1 ⟨rfl, rfl⟩
    go_wp2_with fail
    go_region
    all_goals
      go_wp2
      go_returns
      exact ⟨rfl, KP.out _ (by first | rfl | omega)⟩
  · rw [if_neg h0] at HH ⊢
    have hne : ((((X.held q.n id).2 : Nat) : Int) == 0) = false := by simp <;> exact h0
    generalize (X.held q.n id).2 = e0 at *
    have HC := Lib.hid HH
    have HL := Lib.hid (Led.refl H)
    unfold QQ.ptr at *
    clear H h1 hI HH h0 H0
    go_enter Tryz.func28, Tryz.ntmps28
    go_wp2_with fail
    refine HC.out.mono ?_
    rintro e w1 ⟨rfl, rfl⟩
    go_wp2
    go_returns
    exact ⟨rfl, HL.out⟩
set_option maxHeartbeats 2000000 in
theorem qf_write (H : QI q z X m w F) (hI : Inv q.n X.f X.D) (id : Nat) {v : Nat} (hv : v < 18446744073709551616) : Calls Tryz.prog 32 #[q.ptr, .int .u32 id, .int .u64 v] w fun e w' => e = .returned (.int .i64 (X.write q.n id v).1) ∧ Led (QI q z (X.write q.n id v).2 m) F w w' := by
  have HH := qf_held H hI id
  obtain ⟨av, h1⟩ := H.qm
  have c1 : w.cell? ⟨q.pb, 1, none⟩ = some (.slice (some ⟨q.fb, 0, none⟩) q.n q.n) := h1.ce 1 (by omega)
  have lb := h1.hd.lt
  have lf := h1.fr.lt
  have hn := h1.hn
  unfold PS.write
  unfold heZ at HH
  rcases held_case hI id with ⟨h0, k1, k2, k3, k4, k5, k6, k7⟩ | ⟨h0, _⟩
  · rw [if_pos h0] at HH ⊢
    obtain ⟨e0, e1, e2, e3⟩ := h1.cf k1
    have z1 := h1.fr.frozen ((X.held q.n id).1 * 4 + 1)
    have z3 := h1.fr.frozen ((X.held q.n id).1 * 4 + 3)
    have hb := h1.bd.2 (X.held q.n id).1
    generalize (X.held q.n id).1 = k at *
    have gg : ∀ wf, Fr (fun i => i = q.fb) w wf → (∀ av, QM w q X.f X.A X.sc m av → QM wf q (upd X.f k { X.f k with val := v, dirty := true }) X.A X.sc m av) → Led (QI q z { X with f := upd X.f k { X.f k with val := v, dirty := true } } m) F w wf := fun wf g h => H.cells (Nat.le_refl m) h g
    have KP : Hid (∀ wf, (wf = ((w.setCell ⟨q.fb, k * 4 + 1, none⟩ (.int .u64 v)).setCell ⟨q.fb, k * 4 + 3, none⟩ (.bool true)).drew ∨ wf = ((w.setCell ⟨q.fb, k * 4 + 3, none⟩ (.bool true)).setCell ⟨q.fb, k * 4 + 1, none⟩ (.int .u64 v)).drew) → Led (QI q z { X with f := upd X.f k { X.f k with val := v, dirty := true } } m) F w wf) := fun wf hw => by
      rcases hw with rfl | rfl
      · refine gg _ (((Fr.refl (fun i => i = q.fb) w).setCell (p := ⟨q.fb, _, none⟩) (.inl rfl) _).setCell (p := ⟨q.fb, _, none⟩) (.inl rfl) _).drew (fun av h => ?_)
        have p1 := (h.put1 (m' := m) (j := 1) k1 { X.f k with val := v } (.int .u64 v) (frV_setv X.f k v) (Nat.le_refl _) ⟨hb.1, hv, hb.2.2⟩).1
        have he : upd (frV (upd X.f k { X.f k with val := v })) (k * 4 + 3) (.bool true) = frV (upd (upd X.f k { X.f k with val := v }) k { X.f k with val := v, dirty := true }) := by
          have := frV_setd (upd X.f k { X.f k with val := v }) k true
          rw [upd_same] at this
          exact this
        have p2 := (p1.put1 (m' := m) (j := 3) k1 { X.f k with val := v, dirty := true } (.bool true) he (Nat.le_refl _) ⟨hb.1, hv, hb.2.2⟩).1
        rw [upd_upd] at p2
        exact p2.fr0 ((Fr.refl NoF _).drew)
      · refine gg _ (((Fr.refl (fun i => i = q.fb) w).setCell (p := ⟨q.fb, _, none⟩) (.inl rfl) _).setCell (p := ⟨q.fb, _, none⟩) (.inl rfl) _).drew (fun av h => ?_)
        have p1 := (h.put1 (m' := m) (j := 3) k1 { X.f k with dirty := true } (.bool true) (frV_setd X.f k true) (Nat.le_refl _) ⟨hb.1, hb.2.1, hb.2.2⟩).1
        have he : upd (frV (upd X.f k { X.f k with dirty := true })) (k * 4 + 1) (.int .u64 (v : Nat)) = frV (upd (upd X.f k { X.f k with dirty := true }) k { X.f k with val := v, dirty := true }) := by
          have := frV_setv (upd X.f k { X.f k with dirty := true }) k v
          rw [upd_same] at this
          exact this
        have p2 := (p1.put1 (m' := m) (j := 1) k1 { X.f k with val := v, dirty := true } (.int .u64 v) he (Nat.le_refl _) ⟨hb.1, hv, hb.2.2⟩).1
        rw [upd_upd] at p2
        exact p2.fr0 ((Fr.refl NoF _).drew)
    generalize (X.f k).val = xv at *
    generalize (X.f k).dirty = xd at *
    have HC := Lib.hid HH
    unfold QQ.ptr at *
    clear H h1 hI HH h0 k2 k3 k4 k5 k6 k7 hb gg hv e0 e2
    go_enter Tryz.func32, Tryz.ntmps32
    go_wp2_with fail
    refine HC.out.mono ?_
    rintro e w1 ⟨rfl, rfl⟩
    go_wp2_with fail
    go_region
    all_goals
      go_wp2
      go_returns
      exact ⟨rfl, KP.out _ (by first | exact .inl rfl | exact .inr rfl)⟩
  · rw [if_neg h0] at HH ⊢
    have hne : ((((X.held q.n id).2 : Nat) : Int) == 0) = false := by simp <;> exact h0
    generalize (X.held q.n id).2 = e0 at *
    have HC := Lib.hid HH
    have HL := Lib.hid (Led.refl H)
    unfold QQ.ptr at *
    clear H h1 hI HH h0
    go_enter Tryz.func32, Tryz.ntmps32
    go_wp2_with fail
    refine HC.out.mono ?_
    rintro e w1 ⟨rfl, rfl⟩
    go_wp2
    go_returns
    exact ⟨rfl, HL.out⟩
end
end Go.Proofs.YtnideelidfpicaaGreatDoor
namespace Go.Proofs.YtnideelidfpicaaGreatDoor
open Go.RowKit
set_option linter.unusedVariables false
set_option linter.unusedSimpArgs false
set_option linter.unusedSectionVars false
set_option maxRecDepth 100000
section
variable {w w' : World} {q : QQ} {f f' : Nat → FrS} {l : List Int} {sc m m' z rb : Nat} {av : Value} {X : PS (List Int)} {F : Nat → Prop} {r : RS}
theorem QI.qd (H : QI q z X m w F) : ∃ FD, QD q.rb X.D m w FD := by obtain ⟨FD, av, h1, h2, _⟩ := H; exact ⟨FD, h2⟩
theorem QI.c (H : QI q z X m w F) : w.cell? ⟨q.pb, 0, none⟩ = some (.pointer (some ⟨q.rb, 0, none⟩)) ∧ w.cell? ⟨q.pb, 1, none⟩ = some (.slice (some ⟨q.fb, 0, none⟩) q.n q.n) ∧ q.pb < w.heap.size ∧ q.fb < w.heap.size := by
  obtain ⟨av, h⟩ := H.qm
  exact ⟨h.ce 0 (by omega), h.ce 1 (by omega), h.hd.lt, h.fr.lt⟩
theorem QI.hn (H : QI q z X m w F) : 1 ≤ q.n ∧ q.n ≤ 65535 := by obtain ⟨av, h⟩ := H.qm; exact h.hn
theorem QI.cf (H : QI q z X m w F) {k : Nat} (hk : k < q.n) : w.cell? ⟨q.fb, k * 4, none⟩ = some (.int .u32 (X.f k).id) ∧ w.cell? ⟨q.fb, k * 4 + 1, none⟩ = some (.int .u64 (X.f k).val) ∧ w.cell? ⟨q.fb, k * 4 + 2, none⟩ = some (.int .i64 (X.f k).pins) ∧ w.cell? ⟨q.fb, k * 4 + 3, none⟩ = some (.bool (X.f k).dirty) := by obtain ⟨av, h⟩ := H.qm; exact h.cf hk
theorem QI.fz (H : QI q z X m w F) (i : Nat) : w.frozen? ⟨q.fb, i, none⟩ = false := by obtain ⟨av, h⟩ := H.qm; exact h.fr.frozen i
theorem QI.bdk (H : QI q z X m w F) (k : Nat) : (X.f k).id < 4294967296 ∧ (X.f k).val < 18446744073709551616 ∧ (X.f k).pins ≤ m := by obtain ⟨av, h⟩ := H.qm; exact h.bd.2 k
theorem QI.dwrite (H : QI q z X m w F) (hm : m < 80000) (id : Nat) {v : Nat} (hv : v < 18446744073709551616) : Calls Tryz.prog 67 #[.pointer (some ⟨q.rb, 0, none⟩), .int .u32 id, .int .u64 v] w fun e w' => e = .returned (.int .i64 (X.D.write id v).1) ∧ Led (QI q z { X with D := (X.D.write id v).2 } (m + 1)) F w w' :=
  H.disk (Q := fun e _ => e = .returned (.int .i64 (X.D.write id v).1)) (Nat.le_succ m) (fun FD hd => qd_write hd (by omega) id (by unfold isU64; omega))
theorem QI.dfree (H : QI q z X m w F) (id : Nat) : Calls Tryz.prog 63 #[.pointer (some ⟨q.rb, 0, none⟩), .int .u32 id] w fun e w' => e = .returned (.int .i64 (X.D.free id).1) ∧ Led (QI q z { X with D := (X.D.free id).2 } m) F w w' :=
  H.disk (Q := fun e _ => e = .returned (.int .i64 (X.D.free id).1)) (Nat.le_refl m) (fun FD hd => qd_free hd id)
theorem QI.dread (H : QI q z X m w F) (hm : m < 80000) (id : Nat) : Calls Tryz.prog 64 #[.pointer (some ⟨q.rb, 0, none⟩), .int .u32 id] w fun e w' => e = .returned (.tuple #[.int .u64 (X.D.read id).1.1, .int .i64 (X.D.read id).1.2]) ∧ Led (QI q z { X with D := (X.D.read id).2 } (m + 1)) F w w' :=
  H.disk (Q := fun e _ => e = .returned (.tuple #[.int .u64 (X.D.read id).1.1, .int .i64 (X.D.read id).1.2])) (Nat.le_succ m) (fun FD hd => qd_read hd (by omega) id)
theorem QI.dalloc (H : QI q z X m w F) (hf : X.D.L.length < X.D.room) : Calls Tryz.prog 61 #[.pointer (some ⟨q.rb, 0, none⟩)] w fun e w' => e = .returned (.tuple #[.int .u32 (gapOf X.D.L + 1 : Nat), .int .i64 0]) ∧ Led (QI q z { X with D := X.D.ins (gapOf X.D.L) } m) F w w' :=
  H.disk (Q := fun e _ => e = .returned (.tuple #[.int .u32 (gapOf X.D.L + 1 : Nat), .int .i64 0])) (Nat.le_refl m) (fun FD hd => qd_alloc hd hf)
theorem QI.dfull (H : QI q z X m w F) (hf : X.D.room ≤ X.D.L.length) : Calls Tryz.prog 61 #[.pointer (some ⟨q.rb, 0, none⟩)] w fun e w' => e = .returned (.tuple #[.int .u32 0, .int .i64 2]) ∧ Led (QI q z X m) F w w' :=
  H.disk (Q := fun e _ => e = .returned (.tuple #[.int .u32 0, .int .i64 2])) (Nat.le_refl m) (fun FD hd => qd_full hd hf)
theorem QI.hasC (H : QI q z X m w F) (id : Nat) : Calls Tryz.prog 18 #[.pointer (some ⟨q.rb, 0, none⟩), .int .u32 id] w fun e w' => e = .returned (.bool (X.D.has id)) ∧ w = w' := by
  obtain ⟨FD, h⟩ := H.qd
  exact qd_has h id
theorem QI.frC (H : QI q z X m w F) (id : Nat) (h0 : 1 ≤ id) : Calls Tryz.prog 14 #[q.ptr, .int .u32 id] w fun e w' => e = .returned (.int .i64 (plZ (frm q.n X.f id))) ∧ w = w' := by
  obtain ⟨av, h⟩ := H.qm
  exact qf_frame h id h0
/-- A frame's mark goes. -/
theorem QI.undirty (H : QI q z X m w F) {k : Nat} (hk : k < q.n) : Led (QI q z { X with f := upd X.f k { X.f k with dirty := false } } m) F w (w.setCell ⟨q.fb, k * 4 + 3, none⟩ (.bool false)) := by
  have hb := H.bdk k
  exact H.cells (Nat.le_refl m) (fun av h => (h.put1 (m' := m) (j := 3) hk { X.f k with dirty := false } (.bool false) (frV_setd X.f k false) (Nat.le_refl _) hb).1) ((Fr.refl (fun i => i = q.fb) w).setCell (p := ⟨q.fb, _, none⟩) (.inl rfl) _)
/-- A frame is made empty. -/
theorem QI.wipe (H : QI q z X m w F) {k : Nat} (hk : k < q.n) {x : FrS} (hx : x.id < 4294967296 ∧ x.val < 18446744073709551616 ∧ x.pins ≤ m) {wf : World} (hw : wf = (((w.setCell ⟨q.fb, k * 4, none⟩ (.int .u32 (x.id : Nat))).setCell ⟨q.fb, k * 4 + 1, none⟩ (.int .u64 (x.val : Nat))).setCell ⟨q.fb, k * 4 + 2, none⟩ (.int .i64 (x.pins : Nat))).setCell ⟨q.fb, k * 4 + 3, none⟩ (.bool x.dirty)) : Led (QI q z { X with f := upd X.f k x } m) F w wf := by
  obtain ⟨av, h⟩ := H.qm
  exact H.cells (Nat.le_refl m) (fun av h => (h.put4 hk x hx hw).1) (h.put4 hk x hx hw).2
set_option maxHeartbeats 4000000 in
theorem qf_flush (H : QI q z X m w F) (hI : Inv q.n X.f X.D) (hm : m < 70000) (id : Nat) : Calls Tryz.prog 34 #[q.ptr, .int .u32 id] w fun e w' => e = .returned (.int .i64 (X.flush q.n id).1) ∧ Led (QI q z (X.flush q.n id).2 (m + 1)) F w w' := by
  have HH := H.hasC id
  obtain ⟨c0, c1, lb, lf⟩ := H.c
  have hn := H.hn
  unfold PS.flush
  by_cases hh : X.D.has id = true
  · rw [if_pos hh]
    rw [hh] at HH
    have HC := Lib.hid HH
    have h0 := hI.pos hh
    have HF := H.frC id h0
    cases hk : frm q.n X.f id with
    | none =>
      rw [hk, show plZ none = -1 from rfl] at HF
      have HF1 := Lib.hid HF
      have HL := Lib.hid (Led.refl (H.more (Nat.le_succ m)))
      dsimp only
      unfold QQ.ptr at *
      clear H hI hh HH HF hk
      go_enter Tryz.func34, Tryz.ntmps34
      go_wp2_with fail
      refine HC.out.mono ?_
      rintro e w1 ⟨rfl, rfl⟩
      go_wp2_with fail
      refine HF1.out.mono ?_
      rintro e w1 ⟨rfl, rfl⟩
      go_wp2
      go_returns
      exact ⟨rfl, HL.out⟩
    | some k =>
      obtain ⟨k1, k2⟩ := frm_some hk
      rw [hk, show plZ (some k) = (k : Int) from rfl] at HF
      have HF1 := Lib.hid HF
      have hlt : decide ((k : Int) < 0) = false := by simp
      obtain ⟨_, e1, _, e3⟩ := H.cf k1
      dsimp only
      unfold PS.clean
      by_cases hd : (X.f k).dirty = true
      · rw [if_pos hd]
        rw [hd] at e3
        have hv := (H.bdk k).2.1
        rw [k2]
        have HW : Hid (∀ w0, Fr NoF w w0 → Calls Tryz.prog 67 #[.pointer (some ⟨q.rb, 0, none⟩), .int .u32 id, .int .u64 (X.f k).val] w0 fun e w' => e = .returned (.int .i64 (X.D.write id (X.f k).val).1) ∧ Led (QI q z { X with D := (X.D.write id (X.f k).val).2 } (m + 1)) F w0 w') := fun w0 g => (H.fr0 g).dwrite (by omega) id hv
        have KU : Hid (∀ w1 F1, QI q z { X with D := (X.D.write id (X.f k).val).2 } (m + 1) w1 F1 → Led (QI q z { X with D := (X.D.write id (X.f k).val).2, f := upd X.f k { X.f k with dirty := false } } (m + 1)) F1 w1 (w1.setCell ⟨q.fb, k * 4 + 3, none⟩ (.bool false))) := fun w1 F1 h => h.undirty k1
        have KX : Hid (∀ w1 F1, QI q z { X with D := (X.D.write id (X.f k).val).2 } (m + 1) w1 F1 → w1.cell? ⟨q.pb, 1, none⟩ = some (.slice (some ⟨q.fb, 0, none⟩) q.n q.n) ∧ q.pb < w1.heap.size ∧ q.fb < w1.heap.size ∧ w1.cell? ⟨q.fb, k * 4 + 3, none⟩ = some (.bool true) ∧ w1.frozen? ⟨q.fb, k * 4 + 3, none⟩ = false) := fun w1 F1 h => ⟨h.c.2.1, h.c.2.2.1, h.c.2.2.2, by have := (h.cf k1).2.2.2; rw [show ({ X with D := (X.D.write id (X.f k).val).2 } : PS (List Int)).f = X.f from rfl, hd] at this; exact this, h.fz _⟩
        generalize hww : X.D.write id (X.f k).val = R at *
        obtain ⟨er, D2⟩ := R
        dsimp only at *
        by_cases he : er = 0
        · subst he
          rw [if_pos rfl]
          generalize (X.f k).val = xv at *
          unfold QQ.ptr at *
          clear H hI hh HH HF hk hv k2 hd
          go_enter Tryz.func34, Tryz.ntmps34
          go_wp2_with fail
          refine HC.out.mono ?_
          rintro e w1 ⟨rfl, rfl⟩
          go_wp2_with fail
          refine HF1.out.mono ?_
          rintro e w1 ⟨rfl, rfl⟩
          go_wp2_with fail
          go_still_tail 13, (by kernel_rfl)
          go_wp2_with fail
          refine (HW.out _ ((Fr.refl NoF w).drew)).mono ?_
          rintro e w1 ⟨rfl, F1, h1, g1, q1⟩
          obtain ⟨x1, x2, x3, x4, x5⟩ := KX.out w1 F1 h1
          have HU := Lib.hid (KU.out w1 F1 h1)
          have G1 := Lib.hid g1
          have Q1 := Lib.hid q1
          clear h1 g1 q1
          go_wp2
          go_returns
          exact ⟨rfl, Led.trans (R := fun _ _ => True) (((Fr.refl F w).drew).trans G1.out (fun i k => .inl k)) (fun i k => (Q1.out i k)) HU.out⟩
        · rw [if_neg he]
          have hne : (((er : Nat) : Int) == 0) = false := by simp <;> exact he
          generalize (X.f k).val = xv at *
          unfold QQ.ptr at *
          clear H hI hh HH HF hk hv k2 hd KU
          go_enter Tryz.func34, Tryz.ntmps34
          go_wp2_with fail
          refine HC.out.mono ?_
          rintro e w1 ⟨rfl, rfl⟩
          go_wp2_with fail
          refine HF1.out.mono ?_
          rintro e w1 ⟨rfl, rfl⟩
          go_wp2_with fail
          go_still_tail 13, (by kernel_rfl)
          go_wp2_with fail
          refine (HW.out _ ((Fr.refl NoF w).drew)).mono ?_
          rintro e w1 ⟨rfl, h1⟩
          have H1 := Lib.hid (Led.trans (R := fun _ _ => True) ((Fr.refl F w).drew) (fun i k => .inl k) h1)
          clear h1
          go_wp2
          go_returns
          exact ⟨rfl, H1.out⟩
      · rw [if_neg hd]
        rw [Bool.eq_false_iff.2 hd] at e3
        have HL := Lib.hid (Led.refl (H.more (Nat.le_succ m)))
        generalize (X.f k).val = xv at *
        unfold QQ.ptr at *
        clear H hI hh HH HF hk k2 hd
        go_enter Tryz.func34, Tryz.ntmps34
        go_wp2_with fail
        refine HC.out.mono ?_
        rintro e w1 ⟨rfl, rfl⟩
        go_wp2_with fail
        refine HF1.out.mono ?_
        rintro e w1 ⟨rfl, rfl⟩
        go_wp2
        go_returns
        exact ⟨rfl, HL.out⟩
  · rw [if_neg hh]
    rw [show X.D.has id = false from by simpa using hh] at HH
    have HC := Lib.hid HH
    have HL := Lib.hid (Led.refl (H.more (Nat.le_succ m)))
    unfold QQ.ptr at *
    clear H hI hh HH
    go_enter Tryz.func34, Tryz.ntmps34
    go_wp2_with fail
    refine HC.out.mono ?_
    rintro e w1 ⟨rfl, rfl⟩
    go_wp2
    go_returns
    exact ⟨rfl, HL.out⟩
end
end Go.Proofs.YtnideelidfpicaaGreatDoor

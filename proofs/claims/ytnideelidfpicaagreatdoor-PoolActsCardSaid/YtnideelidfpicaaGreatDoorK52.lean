/-
  pool: a new one, whole; what the law is told first.
  pool: told, what the law is told first.
  Both pools in memory, side by side; a call of each.
  What is called of both pools, by its kind.
  both: a pool, and the document's, do the same: NewPage, Read, FlushAll.
  both: a pool, and the document's, do the same: Fetch, Unpin, Write, Flush, Delete.
  both: a pool, and the document's, do the same: Fail, Stop.
  both, whole; how much room the disk has stays.
  What is asked behind each: Scans, Same, Holds, Frame, Pins, Has.
  The document's pool: New.
  What the rows of layer 9 have in common: the library's table, from the row's condition; a world that meets it.
-/
import Derived.Test.YtnideelidfpicaaGreatDoorK51
import Derived.Test.YtnideelidfpicaaGreatDoorK43
import Derived.Deep.RegionHeld3
import Derived.Test.YtnideelidfpicaaGreatDoorK41
import Derived.Test.YtnideelidfpicaaGreatDoorK44
import Derived.Test.YtnideelidfpicaaGreatDoorK10
import Derived.Test.YtnideelidfpicaaGreatDoorTie
import Derived.ProofKit
import Derived.OpenShut
import Derived.ChangeOld
import Derived.Below
import Derived.LaidLaws
import Derived.Handed
import Derived.Lib.LaidTab
import Derived.SevenTiedAt
namespace Go.Proofs.YtnideelidfpicaaGreatDoor
open Go.RowKit Go.Maps
set_option linter.unusedVariables false
set_option linter.unusedSimpArgs false
set_option linter.unusedSectionVars false
set_option maxRecDepth 100000
theorem emB_zero (n : Nat) : emB n (fun _ => zF) = belowB n := by funext i; unfold emB belowB; simp [zF]
theorem idB_zero (n : Nat) : idB n (fun _ => zF) = noneB := by funext i; unfold idB noneB; simp [zF]
theorem plO_zero (n : Nat) (r : RS) (h0 : r.has 0 = false) : plO n (fun _ => zF) r = fun id => if id ∈ r.L.map (·.1) then some (-1) else none := by
  funext id
  unfold plO
  by_cases h : r.has id = true
  · rw [if_pos h, if_pos (show id ∈ r.L.map (·.1) from (r.has_iff id).1 h), frm_eq_none (fun i hi q => by rw [← q] at h; rw [show (zF.id) = 0 from rfl, h0] at h; cases h)]
    rfl
  · rw [if_neg h, if_neg (show ¬ id ∈ r.L.map (·.1) from fun q => h ((r.has_iff id).2 q))]
theorem pnew_pw {τ : Type} {RR : World → τ → (Nat → Prop) → Prop} {ok : Nat → τ → (Nat → Nat) → (Nat → Bool) → Prop} {a : τ} {n db m0 : Nat} {r : RS} {rv iv0 : Value} {it : TypeId} {w : World} {FD FA : Nat → Prop} (hcd : CD db r m0 w FD) (hm0 : m0 ≤ 1000) (hrr : RR w a FA) (hfr : ∀ {w w' : World}, RR w a FA → Fr NoF w w' → RR w' a FA) (hlt : ∀ i, FA i → i < w.heap.size)
    (hs : ∀ i, FD i → ¬ FA i) (ht : TabT w) (ht1 : ¬ FD 0 ∧ ¬ FA 0) (hrv : rv = .iface it iv0) (hn : 1 ≤ n ∧ n ≤ 65535) (hL : r.L.length ≤ 1000) (hI : Inv n (fun _ => zF) r) (hok : ok 1000 a (fun _ => 0) (fun _ => true)) :
    Calls Tryz.prog 6 #[.pointer (some ⟨db, 0, none⟩), .int .i64 n, rv] w fun e w' => ∃ p : PP, p.n = n ∧ p.db = db ∧ p.rv = rv ∧ e = .returned (.tuple #[p.ptr, .int .i64 0]) ∧ (∃ F, PW RR ok p ⟨fun _ => zF, r, a, 0⟩ 1000 w' F ∧ (∀ i, F i → FD i ∨ FA i ∨ w.heap.size ≤ i)) ∧ Fr NoF w w' := by
  have hroom := hcd.room
  have hh0 : r.has 0 = false := by
    cases e : r.has 0 with
    | false => rfl
    | true => have := hI.pos e; omega
  refine (pnew_made n db hrv w hn ht (ids := r.L.map (·.1)) (by rw [List.length_map]; exact hL) (fun x hx => by
    obtain ⟨y, hy, rfl⟩ := List.mem_map.1 hx
    have := hcd.ids y hy
    omega) (fun W hW => cd_pages (hcd.fr0 hW))).mono ?_
  rintro e w' ⟨p, h1, h2, h3, he, hmp, hown, hf⟩
  refine ⟨p, h1, h2, h3, he, ⟨fun i => p.own i ∨ FD i ∨ FA i, ⟨⟨FD, FA, ⟨?_, by rw [h2]; exact (hcd.fr0 hf).more hm0, hfr hrr hf, fun i q => ⟨fun k => ?_, fun k => ?_⟩, hs, ht1⟩, fun i => Iff.rfl⟩, by rw [h1]; exact hI, hok⟩, fun i q => ?_⟩, hf⟩
  · show MP w' p (fun _ => zF) (plO p.n (fun _ => zF) r) (emB p.n (fun _ => zF)) (idB p.n (fun _ => zF)) 0 1000
    rw [emB_zero, idB_zero, plO_zero p.n r hh0, h1]
    exact hmp
  · have := hown i q; have := hcd.lt i k; omega
  · have := hown i q; have := hlt i k; omega
  · rcases q with q | q | q
    · exact .inr (.inr (hown i q))
    · exact .inl q
    · exact .inr (.inl q)
/-! The first pages, reckoned. -/
def tX0 : PS (List Int) := ⟨fun _ => zF, ⟨9, [], [], [], 0, 0, false, 0⟩, [], 0⟩
def tX1 : PS (List Int) := ⟨upd (fun _ => zF) 0 ⟨1, 0, 1, false⟩, ⟨9, [(1, 0)], [], [], 0, 0, false, 0⟩, [], 0⟩
def tX2 : PS (List Int) := ⟨upd (upd (fun _ => zF) 0 ⟨1, 0, 1, false⟩) 0 ⟨1, 0, 0, false⟩, ⟨9, [(1, 0)], [], [], 0, 0, false, 0⟩, [], 0⟩
def tX3 : PS (List Int) := ⟨upd (upd (upd (upd (fun _ => zF) 0 ⟨1, 0, 1, false⟩) 0 ⟨1, 0, 0, false⟩) 0 zF) 0 ⟨2, 0, 1, false⟩, ⟨9, [(1, 0), (2, 0)], [], [], 0, 0, false, 0⟩, [], 1⟩
theorem gap_0 : gapOf [] = 0 := Gap.same (gapOf_is []) ⟨Nat.le_refl _, fun j hj _ => absurd hj (Nat.not_lt_zero j), fun hk => absurd hk (Nat.lt_irrefl 0)⟩
theorem gap_1 : gapOf [(1, 0)] = 1 := Gap.same (gapOf_is [(1, 0)]) ⟨Nat.le_refl _, fun j hj h => by
  have e : j = 0 := by omega
  subst e; rfl, fun hk => absurd hk (Nat.lt_irrefl 1)⟩
theorem t_np0 : tX0.newPage advP 1 = ((1, 0), tX1) := by
  unfold PS.newPage
  rw [show tX0.D.L = [] from rfl, gap_0]
  rfl
theorem t_np1 : tX1.newPage advP 1 = ((0, 6), tX1) := by
  unfold PS.newPage
  rw [show tX1.all 1 = true from rfl]
  rfl
theorem t_un1 : tX1.unpin advP 1 1 = (0, tX2) := rfl
theorem t_np2 : tX2.newPage advP 1 = ((2, 0), tX3) := by
  unfold PS.newPage
  rw [show tX2.D.L = [(1, 0)] from rfl, gap_1]
  rfl
theorem t_fe3 : tX3.fetch advP 1 1 = (6, tX3) := rfl
theorem t_fr2 : tX3.frame 1 2 = 0 := rfl
theorem t_fr1 : tX3.frame 1 1 = -1 := rfl
theorem t_hs1 : tX3.D.has 1 = true := rfl
theorem t_inv : Inv 1 (fun _ => zF) tX0.D := by
  refine ⟨fun i hi h => rfl, fun i hi h => absurd rfl h, fun i j hi hj h => absurd rfl h, ⟨dk0 9, ?_⟩, fun x hx => (by cases hx), fun i hi => by decide⟩
  exact ⟨rfl, rfl, rfl, rfl, rfl, fun q => (by cases q), fun id _ _ => rfl, fun id _ _ => rfl, by show 0 ≤ 9; omega⟩
end Go.Proofs.YtnideelidfpicaaGreatDoor
namespace Go.Proofs.YtnideelidfpicaaGreatDoor
open Go.RowKit Go.Maps
set_option linter.unusedVariables false
set_option linter.unusedSimpArgs false
set_option linter.unusedSectionVars false
set_option maxRecDepth 100000
/-- All its blocks are newer than w0; nothing elder has changed. -/
def Mine (R : World → (Nat → Prop) → Prop) (w0 w : World) : Prop := ∃ F, R w F ∧ (∀ i, F i → w0.heap.size ≤ i) ∧ Fr NoF w0 w
theorem Mine.step {R R' : World → (Nat → Prop) → Prop} {w0 w w' : World} {F : Nat → Prop} (hF : ∀ i, F i → w0.heap.size ≤ i) (f : Fr NoF w0 w) (h : Led R' F w w') : Mine R' w0 w' := by
  obtain ⟨F', h1, h2, h3⟩ := h
  refine ⟨F', h1, fun i q => ?_, f.trans h2 (fun i q => .inr (hF i q))⟩
  rcases h3 i q with q | q
  · exact hF i q
  · have := f.size; omega
def okT : Nat → List Int → (Nat → Nat) → (Nat → Bool) → Prop := fun _ _ _ _ => True
/-- A pool with advice, of the call's own. -/
def PA (p : PP) (lb : Nat) (X : PS (List Int)) (m : Nat) : World → (Nat → Prop) → Prop := fun w F => PW (AR lb) okT p X m w F
section
variable {w0 w w' : World} {p : PP} {lb m : Nat} {X Y : PS (List Int)}
theorem pa_sys (hr : p.rv = advV lb) : RepSys advP (AR lb) p.pb p.rv p.n okT := by rw [hr]; exact adv_sys p.pb lb p.n
theorem pa_np (hr : p.rv = advV lb) (hm : m < 60000) {a : Nat × Nat} (h : Mine (PA p lb X m) w0 w) (he : X.newPage advP p.n = (a, Y)) : Calls Tryz.prog 19 #[p.ptr] w fun e w' => e = .returned (.tuple #[.int .u32 a.1, .int .i64 a.2]) ∧ Mine (PA p lb Y (m + 10)) w0 w' := by
  obtain ⟨F, h1, h2, h3⟩ := h
  have := np_calls (pa_sys hr) h1 hm
  rw [he] at this
  exact this.mono fun e w' ⟨q1, q2⟩ => ⟨q1, Mine.step (R := PA p lb X m) h2 h3 q2⟩
theorem pa_un (hr : p.rv = advV lb) (hm : m < 60000) {id a : Nat} (hu : id < 4294967296) (h : Mine (PA p lb X m) w0 w) (he : X.unpin advP p.n id = (a, Y)) : Calls Tryz.prog 20 #[p.ptr, .int .u32 id] w fun e w' => e = .returned (.int .i64 a) ∧ Mine (PA p lb Y (m + 10)) w0 w' := by
  obtain ⟨F, h1, h2, h3⟩ := h
  have := un_calls (pa_sys hr) h1 hm hu
  rw [he] at this
  exact this.mono fun e w' ⟨q1, q2⟩ => ⟨q1, Mine.step (R := PA p lb X m) h2 h3 q2⟩
theorem pa_fe (hr : p.rv = advV lb) (hm : m < 60000) {id a : Nat} (hu : id < 4294967296) (h : Mine (PA p lb X m) w0 w) (he : X.fetch advP p.n id = (a, Y)) : Calls Tryz.prog 21 #[p.ptr, .int .u32 id] w fun e w' => e = .returned (.int .i64 a) ∧ Mine (PA p lb Y (m + 10)) w0 w' := by
  obtain ⟨F, h1, h2, h3⟩ := h
  have := fe_calls (pa_sys hr) h1 hm hu
  rw [he] at this
  exact this.mono fun e w' ⟨q1, q2⟩ => ⟨q1, Mine.step (R := PA p lb X m) h2 h3 q2⟩
theorem pa_sc (h : Mine (PA p lb X m) w0 w) : Calls Tryz.prog 10 #[p.ptr] w fun e w' => e = .returned (.int .i64 X.sc) ∧ w = w' := by
  obtain ⟨F, h1, h2, h3⟩ := h
  exact sc_calls h1
theorem pa_fr (h : Mine (PA p lb X m) w0 w) {id : Nat} (hu : id < 4294967296) : Calls Tryz.prog 13 #[p.ptr, .int .u32 id] w fun e w' => e = .returned (.int .i64 (X.frame p.n id)) ∧ w = w' := by
  obtain ⟨F, h1, h2, h3⟩ := h
  exact fr_calls h1 hu
theorem pa_hs (h : Mine (PA p lb X m) w0 w) {id : Nat} (hu : id < 4294967296) : Calls Tryz.prog 17 #[p.ptr, .int .u32 id] w fun e w' => e = .returned (.bool (X.D.has id)) ∧ w = w' := by
  obtain ⟨F, h1, h2, h3⟩ := h
  exact hs_calls h1 hu
/-- A new one, of advice and a disk of the call's own. -/
theorem pa_new {db n m0 : Nat} {r : RS} {l : List Int} {FD FA : Nat → Prop} (hcd : CD db r m0 w FD) (hm0 : m0 ≤ 1000) (har : AR lb w l FA) (hs : ∀ i, FD i → ¬ FA i) (ht : TabT w) (ht1 : ¬ FD 0 ∧ ¬ FA 0) (hn : 1 ≤ n ∧ n ≤ 65535) (hL : r.L.length ≤ 1000) (hI : Inv n (fun _ => zF) r) (hF : ∀ i, FD i ∨ FA i → w0.heap.size ≤ i) (hf : Fr NoF w0 w) :
    Calls Tryz.prog 6 #[.pointer (some ⟨db, 0, none⟩), .int .i64 n, advV lb] w fun e w' => ∃ p : PP, p.n = n ∧ p.db = db ∧ p.rv = advV lb ∧ e = .returned (.tuple #[p.ptr, .int .i64 0]) ∧ Mine (PA p lb ⟨fun _ => zF, r, l, 0⟩ 1000) w0 w' := by
  refine (pnew_pw (RR := AR lb) (ok := okT) hcd hm0 har (fun h f => h.fr f (fun _ _ q => q)) har.lt hs ht ht1 rfl hn hL hI trivial).mono ?_
  rintro e w' ⟨p, h1, h2, h3, he, ⟨F, h4, h5⟩, f⟩
  refine ⟨p, h1, h2, h3, he, F, h4, fun i q => ?_, hf.trans f (fun _ q => q.elim)⟩
  rcases h5 i q with q | q | q
  · exact hF i (.inl q)
  · exact hF i (.inr q)
  · have := hf.size; omega
set_option maxHeartbeats 4000000 in
theorem toldP_calls (hT : TabT w) : Calls Tryz.prog 5 #[] w fun e w' => e = .returned (.bool true) ∧ Fr NoF w w' := by
  have HT := Lib.hid hT
  have htl := hT.lt
  clear hT
  go_enter Tryz.func5, Tryz.ntmps5
  go_wp2_with fail
  refine (cd_new 9 _ (by omega) (by omega)).mono ?_
  rintro e w1 ⟨db, FD, rfl, d1, d2, d3⟩
  have D1 := Lib.hid d1
  have D2 := Lib.hid d2
  have D3 := Lib.hid d3
  clear d1 d2 d3
  go_wp2_with fail
  refine (advise_calls (v := .slice none 0 0) (l := []) (SlC.nil _ _) (by show 0 ≤ 65535; omega)).mono ?_
  rintro e w2 ⟨lb, FA, rfl, a1, a2, a3⟩
  have HN := Lib.hid (pa_new (w0 := w) (n := 1) (D1.out.fr0 a3) (by omega) a1 (fun i q k => by have := D1.out.lt i q; have := a2 i k; omega) ((HT.out.fr0 D3.out).fr0 a3) ⟨fun q => by have := D2.out _ q; omega, fun q => by have := a2 _ q; have := D3.out.size; omega⟩ ⟨by omega, by omega⟩ (by show 0 ≤ 1000; omega) t_inv (fun i q => q.elim (fun q => D2.out i q) (fun q => by have := a2 i q; have := D3.out.size; omega)) (D3.out.trans a3 (fun _ q => q.elim)))
  clear a1 a2 a3 D1 D2 D3 htl HT
  go_wp2_with fail
  refine HN.out.mono ?_
  clear HN
  rintro e w3 ⟨p, hpn, hpd, hpr, rfl, h3⟩
  have HR := Lib.hid hpr
  have HP := Lib.hid hpn
  have KN := fun a X Y m (q : m < 60000) w4 (h : Mine (PA p lb X m) w w4) he => pa_np (a := a) (Y := Y) hpr q h he
  have H3 := Lib.hid h3
  have HQ : Hid (p.ptr = .pointer (some ⟨p.pb, 0, none⟩)) := rfl
  clear hpn hpd hpr h3 KN
  unfold PP.ptr
  go_wp2_with fail
  refine (pa_np (a := (1, 0)) (Y := tX1) HR.out (by omega) H3.out (by rw [HP.out]; exact t_np0)).mono ?_
  rintro e w4 ⟨rfl, h4⟩
  have H4 := Lib.hid h4
  clear h4 H3
  go_wp2_with fail
  refine (pa_np (a := (0, 6)) (Y := tX1) HR.out (by omega) H4.out (by rw [HP.out]; exact t_np1)).mono ?_
  rintro e w5 ⟨rfl, h5⟩
  have H5 := Lib.hid h5
  clear h5 H4
  go_wp2_with fail
  refine (pa_un (id := 1) (a := 0) (Y := tX2) HR.out (by omega) (by omega) H5.out (by rw [HP.out]; exact t_un1)).mono ?_
  rintro e w6 ⟨rfl, h6⟩
  have H6 := Lib.hid h6
  clear h6 H5
  go_wp2_with fail
  refine (pa_np (a := (2, 0)) (Y := tX3) HR.out (by omega) H6.out (by rw [HP.out]; exact t_np2)).mono ?_
  rintro e w7 ⟨rfl, h7⟩
  have H7 := Lib.hid h7
  clear h7 H6
  go_wp2_with fail
  refine (pa_fe (id := 1) (a := 6) (Y := tX3) HR.out (by omega) (by omega) H7.out (by rw [HP.out]; exact t_fe3)).mono ?_
  rintro e w8 ⟨rfl, h8⟩
  have H8 := Lib.hid h8
  clear h8 H7
  go_wp2_with fail
  refine (pa_sc H8.out).mono ?_
  rintro e w9 ⟨rfl, rfl⟩
  rw [show tX3.sc = 1 from rfl]
  go_wp2_with fail
  refine (pa_fr H8.out (id := 2) (by omega)).mono ?_
  rintro e w9 ⟨rfl, rfl⟩
  rw [HP.out, t_fr2]
  go_wp2_with fail
  refine (pa_fr H8.out (id := 1) (by omega)).mono ?_
  rintro e w9 ⟨rfl, rfl⟩
  rw [HP.out, t_fr1]
  go_wp2_with fail
  refine (pa_hs H8.out (id := 1) (by omega)).mono ?_
  rintro e w9 ⟨rfl, rfl⟩
  rw [t_hs1]
  go_wp2
  go_returns
  obtain ⟨F, _, _, hf⟩ := H8.out
  exact ⟨rfl, hf⟩
end
end Go.Proofs.YtnideelidfpicaaGreatDoor
namespace Go.Proofs.YtnideelidfpicaaGreatDoor
open Go.RowKit Go.Maps
set_option linter.unusedVariables false
set_option linter.unusedSimpArgs false
set_option linter.unusedSectionVars false
section
variable {n : Nat} {f : Nat → FrS} {D : RS}
theorem fail_has (D : RS) (id : Nat) (b : Bool) (t : Nat) : (∀ x, (D.fail id b t).has x = D.has x) ∧ (D.fail id b t).L = D.L := by
  unfold RS.fail; split <;> exact ⟨fun x => rfl, rfl⟩
theorem Inv.fail (H : Inv n f D) (id : Nat) (b : Bool) (t : Nat) : Inv n f (D.fail id b t) := by
  obtain ⟨h1, h2⟩ := fail_has D id b t
  obtain ⟨s, hs⟩ := H.dr
  exact H.disk (fun i hi h0 => by rw [h1]; exact H.has i hi h0) ⟨_, hs.fail id b t⟩ (by rw [h2]; exact H.vd)
theorem Inv.stop (H : Inv n f D) (t : Nat) : Inv n f { D with stops := true, left := (t : Int) } := by
  obtain ⟨s, hs⟩ := H.dr
  exact H.disk (fun i hi h0 => H.has i hi h0) ⟨_, hs.stop t⟩ H.vd
end
section
variable {τ : Type} {P : Adv τ} {RR : World → τ → (Nat → Prop) → Prop} {ok : Nat → τ → (Nat → Nat) → (Nat → Bool) → Prop} {p : PP} (S : RepSys P RR p.pb p.rv p.n ok) {w w' : World} {m : Nat} {F : Nat → Prop} {X : PS τ}
include S
theorem fail_pw (H : PW RR ok p X m w F) (hm : m < 70000) {id : Nat} (hu : id < 4294967296) (b : Bool) (t : Int) (ht : isI63 t.toNat) : Calls Tryz.prog 39 #[.pointer (some ⟨p.db, 0, none⟩), .int .u32 id, .bool b, .int .i64 t] w fun e w' => e = .returned (.tuple #[]) ∧ Led (PW RR ok p { X with D := X.D.fail id b t.toNat } (m + 1)) F w w' := by
  refine (H.1.disk S (Q := fun e _ => e = .returned (.tuple #[])) (Nat.le_succ m) (fun FD hd => cd_fail hd (by omega) (by unfold isU32; omega) b t ht)).mono ?_
  rintro e w' ⟨he, hl⟩
  refine ⟨he, hl.mono (fun F' h' => ?_)⟩
  dsimp only [CT] at h'
  have hw : PW RR ok p { X with D := X.D.fail id b t.toNat } (m + 1) w' F' := ⟨by
    unfold CT
    dsimp only
    rw [plO_D (fail_has X.D id b t.toNat).1]
    exact h', H.2.1.fail _ _ _, S.more H.2.2 (by omega)⟩
  exact hw
theorem stop_pw (H : PW RR ok p X m w F) (t : Int) (ht : isI63 t.toNat) : Calls Tryz.prog 41 #[.pointer (some ⟨p.db, 0, none⟩), .int .i64 t] w fun e w' => e = .returned (.tuple #[]) ∧ Led (PW RR ok p { X with D := { X.D with stops := true, left := (t.toNat : Int) } } m) F w w' := by
  refine (H.1.disk S (Q := fun e _ => e = .returned (.tuple #[])) (Nat.le_refl m) (fun FD hd => cd_stop hd t ht)).mono ?_
  rintro e w' ⟨he, hl⟩
  refine ⟨he, hl.mono (fun F' h' => ?_)⟩
  dsimp only [CT] at h'
  have hw : PW RR ok p { X with D := { X.D with stops := true, left := (t.toNat : Int) } } m w' F' := ⟨by
    unfold CT
    dsimp only
    rw [plO_D (D' := { X.D with stops := true, left := (t.toNat : Int) }) (D := X.D) (fun x => rfl)]
    exact h', H.2.1.stop _, H.2.2⟩
  exact hw
end
section
variable {w0 w w' : World} {p : PP} {q : QQ} {lb m m' k k' ob z : Nat} {X Y X1 Y1 : PS (List Int)} {oc : Nat → Value} {F G : Nat → Prop} {v : Value} {f g : FuncId} {xs ys : Array Value}
theorem QI.dfail (H : QI q z X m w F) (hm : m < 70000) (id : Nat) (b : Bool) (t : Int) (ht : isI63 t.toNat) : Calls Tryz.prog 40 #[.pointer (some ⟨q.rb, 0, none⟩), .int .u32 id, .bool b, .int .i64 t] w fun e w' => e = .returned (.tuple #[]) ∧ Led (QI q z { X with D := X.D.fail id b t.toNat } (m + 1)) F w w' :=
  H.disk (Q := fun e _ => e = .returned (.tuple #[])) (Nat.le_succ m) (fun FD hd => qd_fail hd (by omega) id b t ht)
theorem QI.dstop (H : QI q z X m w F) (t : Int) (ht : isI63 t.toNat) : Calls Tryz.prog 42 #[.pointer (some ⟨q.rb, 0, none⟩), .int .i64 t] w fun e w' => e = .returned (.tuple #[]) ∧ Led (QI q z { X with D := { X.D with stops := true, left := (t.toNat : Int) } } m) F w w' :=
  H.disk (Q := fun e _ => e = .returned (.tuple #[])) (Nat.le_refl m) (fun FD hd => qd_stop hd t ht)
/-- The code's pool, the document's, what is to be done. -/
def TB (p : PP) (q : QQ) (lb : Nat) (w0 w : World) (X Y : PS (List Int)) (m m' ob : Nat) (oc : Nat → Value) : Prop :=
  ∃ F G, PA p lb X m w F ∧ QI q w0.heap.size Y m' w G ∧ (∀ i, F i → ¬ G i ∧ w0.heap.size ≤ i) ∧ (Blk w ob 3 oc ∧ ¬ F ob ∧ ¬ G ob) ∧ Fr NoF w0 w
/-- .. without the last. -/
def TE (p : PP) (q : QQ) (lb : Nat) (w0 w : World) (X : PS (List Int)) (m : Nat) : Prop :=
  ∃ F G, PA p lb X m w F ∧ QI q w0.heap.size X m w G ∧ (∀ i, F i → ¬ G i ∧ w0.heap.size ≤ i) ∧ Fr NoF w0 w
theorem TB.e (H : TB p q lb w0 w X X m m ob oc) : TE p q lb w0 w X m := by
  obtain ⟨F, G, h1, h2, h3, h4, h5⟩ := H
  exact ⟨F, G, h1, h2, h3, h5⟩
theorem PA.lt (hr : p.rv = advV lb) (h : PA p lb X m w F) : ∀ i, F i → i < w.heap.size := h.1.lt (pa_sys hr)
theorem TE.with (hr : p.rv = advV lb) (H : TE p q lb w0 w X m) (hb : Blk w' ob 3 oc) (g : Fr NoF w w') (ho : w.heap.size ≤ ob) : TB p q lb w0 w' X X m m ob oc := by
  obtain ⟨F, G, h1, h2, h3, h5⟩ := H
  exact ⟨F, G, PW.fr0 (pa_sys hr) h1 g, h2.fr0 g, h3, ⟨hb, fun e => by have := PA.lt hr h1 _ e; omega, fun e => by have := h2.lt _ e; omega⟩, h5.trans g (fun _ k => k.elim)⟩
theorem TE.fr0 (hr : p.rv = advV lb) (H : TE p q lb w0 w X m) (g : Fr NoF w w') : TE p q lb w0 w' X m := by
  obtain ⟨F, G, h1, h2, h3, h5⟩ := H
  exact ⟨F, G, PW.fr0 (pa_sys hr) h1 g, h2.fr0 g, h3, h5.trans g (fun _ k => k.elim)⟩
theorem TB.fr0 (hr : p.rv = advV lb) (H : TB p q lb w0 w X Y m m' ob oc) (g : Fr NoF w w') : TB p q lb w0 w' X Y m m' ob oc := by
  obtain ⟨F, G, h1, h2, h3, ⟨h4, h6, h7⟩, h5⟩ := H
  exact ⟨F, G, PW.fr0 (pa_sys hr) h1 g, h2.fr0 g, h3, ⟨h4.fr g (fun k => k), h6, h7⟩, h5.trans g (fun _ k => k.elim)⟩
theorem TB.cell (H : TB p q lb w0 w X Y m m' ob oc) (g : Fr NoF w w') {i : Nat} (hi : i < 3) : w'.cell? ⟨ob, i, none⟩ = some (oc i) := by
  obtain ⟨F, G, h1, h2, h3, ⟨h4, h6, h7⟩, h5⟩ := H
  exact (h4.fr g (fun k => k)).cell hi
theorem TB.lt (H : TB p q lb w0 w X Y m m' ob oc) : ob < w.heap.size := by
  obtain ⟨F, G, h1, h2, h3, ⟨h4, h6, h7⟩, h5⟩ := H
  exact h4.lt
/-- The code's pool is called. -/
theorem TB.code (H : TB p q lb w0 w X Y m m' ob oc) (hc : ∀ F, PA p lb X m w F → Calls Tryz.prog f xs w fun e w' => e = .returned v ∧ Led (PA p lb X1 k) F w w') : Calls Tryz.prog f xs w fun e w' => e = .returned v ∧ TB p q lb w0 w' X1 Y k m' ob oc := by
  obtain ⟨F, G, h1, h2, h3, ⟨h4, h6, h7⟩, h5⟩ := H
  refine (hc F h1).mono ?_
  rintro e w' ⟨he, F1, a1, a2, a3⟩
  refine ⟨he, F1, G, a1, h2.fr a2 (fun i a b => (h3 i b).1 a) (fun i a b => by have := (h3 i b).2; omega), fun i a => ?_, ⟨h4.fr a2 h6, fun a => ?_, h7⟩, h5.trans a2 (fun i a => .inr (h3 i a).2)⟩
  · rcases a3 i a with b | b
    · exact h3 i b
    · exact ⟨fun c => by have := h2.lt i c; omega, by have := h5.size; omega⟩
  · rcases a3 _ a with b | b
    · exact h6 b
    · have := h4.lt; omega
theorem pa_fro (hr : p.rv = advV lb) (h : PA p lb X m w F) (g : Fr G w w') (hG : ∀ i, F i → ¬ G i) (ht : ¬ G 0) : PA p lb X m w' F := ⟨h.1.fro (pa_sys hr) g hG ht, h.2⟩
/-- The document's is. -/
theorem TB.ref (hr : p.rv = advV lb) (htab : 0 < w0.heap.size) (H : TB p q lb w0 w X Y m m' ob oc) (hc : ∀ G, QI q w0.heap.size Y m' w G → Calls Tryz.prog g ys w fun e w' => e = .returned v ∧ Led (QI q w0.heap.size Y1 k') G w w') : Calls Tryz.prog g ys w fun e w' => e = .returned v ∧ TB p q lb w0 w' X Y1 m k' ob oc := by
  obtain ⟨F, G, h1, h2, h3, ⟨h4, h6, h7⟩, h5⟩ := H
  have hz : ∀ i, G i → w0.heap.size ≤ i := by
    obtain ⟨FD, av, _, _, _, _, _, k6, _⟩ := h2
    exact k6
  refine (hc G h2).mono ?_
  rintro e w' ⟨he, G1, a1, a2, a3⟩
  have hlt := PA.lt hr h1
  have hPA : PA p lb X m w' F := pa_fro hr h1 a2 (fun i a b => (h3 i a).1 b) (fun a => by have := hz _ a; omega)
  refine ⟨he, F, G1, hPA, a1, fun i a => ⟨fun b => ?_, (h3 i a).2⟩, ⟨h4.fr a2 h7, h6, fun a => ?_⟩, h5.trans a2 (fun i a => .inr (hz i a))⟩
  · rcases a3 i b with c | c
    · exact (h3 i a).1 c
    · have := hlt i a; omega
  · rcases a3 _ a with b | b
    · exact h7 b
    · have := h4.lt; omega
end
end Go.Proofs.YtnideelidfpicaaGreatDoor
namespace Go.Proofs.YtnideelidfpicaaGreatDoor
open Go.RowKit Go.Maps
set_option linter.unusedVariables false
set_option linter.unusedSimpArgs false
set_option linter.unusedSectionVars false
section
variable {w0 w w' : World} {p : PP} {q : QQ} {lb m ob : Nat} {X : PS (List Int)} {oc : Nat → Value}
/-- A call of the code's pool, one of the document's behind it: both answer v, and both are at X1 then. -/
def PairP (p : PP) (q : QQ) (lb : Nat) (w0 w : World) (X : PS (List Int)) (m ob : Nat) (oc : Nat → Value) (f g : FuncId) (xs ys : Array Value) (v : Value) (X1 : PS (List Int)) : Prop :=
  Hid (∀ W, Fr NoF w W → Calls Tryz.prog f xs W fun e w' => e = .returned v ∧ TB p q lb w0 w' X1 X (m + 100) m ob oc) ∧
  Hid (∀ W, TB p q lb w0 W X1 X (m + 100) m ob oc → Calls Tryz.prog g ys W fun e w' => e = .returned v ∧ TB p q lb w0 w' X1 X1 (m + 100) (m + 100) ob oc)
section
variable (hr : p.rv = advV lb) (hn : p.n = q.n) (htab : 0 < w0.heap.size) (H : TB p q lb w0 w X X m m ob oc) (hm : m < 50000)
include hr hn htab H hm
theorem PairP.mk {f g : FuncId} {xs ys : Array Value} {v : Value} {X1 : PS (List Int)} {k : Nat} (hk : m + k ≤ m + 100)
    (hc : ∀ W F, PA p lb X m W F → Calls Tryz.prog f xs W fun e w' => e = .returned v ∧ Led (PA p lb X1 (m + k)) F W w')
    (hg : ∀ W G, QI q w0.heap.size X m W G → Inv q.n X.f X.D → Calls Tryz.prog g ys W fun e w' => e = .returned v ∧ Led (QI q w0.heap.size X1 (m + k)) G W w') : PairP p q lb w0 w X m ob oc f g xs ys v X1 := by
  have hI : Inv q.n X.f X.D := by
    obtain ⟨F, G, h1, _⟩ := H
    rw [← hn]; exact h1.2.1
  refine ⟨fun W g0 => (H.fr0 hr g0).code (fun F h => (hc W F h).mono ?_), fun W h => h.ref hr htab (fun G h => (hg W G h hI).mono ?_)⟩
  · rintro e w' ⟨he, hl⟩
    exact ⟨he, hl.mono (fun F' h' => PW.more (pa_sys hr) h' hk)⟩
  · rintro e w' ⟨he, hl⟩
    exact ⟨he, hl.mono (fun F' h' => h'.more hk)⟩
theorem pair_new : PairP p q lb w0 w X m ob oc 19 26 #[p.ptr] #[q.ptr] (.tuple #[.int .u32 (X.newPage advP p.n).1.1, .int .i64 (X.newPage advP p.n).1.2]) (X.newPage advP p.n).2 :=
  PairP.mk hr hn htab H hm (k := 10) (by omega) (fun W F h => np_calls (pa_sys hr) h (by omega)) (fun W G h hI => by rw [hn]; exact qf_newPage h hI (by omega))
theorem pair_fetch {id : Nat} (hu : id < 4294967296) : PairP p q lb w0 w X m ob oc 21 27 #[p.ptr, .int .u32 id] #[q.ptr, .int .u32 id] (.int .i64 (X.fetch advP p.n id).1) (X.fetch advP p.n id).2 :=
  PairP.mk hr hn htab H hm (k := 10) (by omega) (fun W F h => fe_calls (pa_sys hr) h (by omega) hu) (fun W G h hI => by rw [hn]; exact qf_fetch h hI (by omega) hu)
theorem pair_unpin {id : Nat} (hu : id < 4294967296) : PairP p q lb w0 w X m ob oc 20 28 #[p.ptr, .int .u32 id] #[q.ptr, .int .u32 id] (.int .i64 (X.unpin advP p.n id).1) (X.unpin advP p.n id).2 :=
  PairP.mk hr hn htab H hm (k := 10) (by omega) (fun W F h => un_calls (pa_sys hr) h (by omega) hu) (fun W G h hI => by
    rw [hn]
    refine (qf_unpin h hI (by omega) id).mono ?_
    rintro e w' ⟨he, hl⟩
    exact ⟨he, hl.mono (fun F' h' => h'.more (by omega))⟩)
theorem pair_read {id : Nat} (hu : id < 4294967296) : PairP p q lb w0 w X m ob oc 29 30 #[p.ptr, .int .u32 id] #[q.ptr, .int .u32 id] (.tuple #[.int .u64 (X.read p.n id).1, .int .i64 (X.read p.n id).2]) X :=
  PairP.mk hr hn htab H hm (k := 0) (by omega) (fun W F h => (rd_calls h hu).mono fun e w' ⟨he, hw⟩ => ⟨he, by subst hw; exact Led.refl h⟩) (fun W G h hI => by
    rw [hn]
    refine (qf_read h hI id).mono ?_
    rintro e w' ⟨he, rfl⟩
    exact ⟨he, Led.refl h⟩)
theorem pair_write {id v : Nat} (hu : id < 4294967296) (hv : v < 18446744073709551616) : PairP p q lb w0 w X m ob oc 31 32 #[p.ptr, .int .u32 id, .int .u64 v] #[q.ptr, .int .u32 id, .int .u64 v] (.int .i64 (X.write p.n id v).1) (X.write p.n id v).2 :=
  PairP.mk hr hn htab H hm (k := 10) (by omega) (fun W F h => wr_calls (pa_sys hr) h hu hv) (fun W G h hI => by
    rw [hn]
    refine (qf_write h hI id hv).mono ?_
    rintro e w' ⟨he, hl⟩
    exact ⟨he, hl.mono (fun F' h' => h'.more (by omega))⟩)
theorem pair_flush {id : Nat} (hu : id < 4294967296) : PairP p q lb w0 w X m ob oc 33 34 #[p.ptr, .int .u32 id] #[q.ptr, .int .u32 id] (.int .i64 (X.flush p.n id).1) (X.flush p.n id).2 :=
  PairP.mk hr hn htab H hm (k := 10) (by omega) (fun W F h => fl_calls (pa_sys hr) h (by omega) hu) (fun W G h hI => by
    rw [hn]
    refine (qf_flush h hI (by omega) id).mono ?_
    rintro e w' ⟨he, hl⟩
    exact ⟨he, hl.mono (fun F' h' => h'.more (by omega))⟩)
theorem pair_flushAll (h64 : p.n ≤ 64) (hl : X.D.L.length ≤ 100) : PairP p q lb w0 w X m ob oc 35 36 #[p.ptr] #[q.ptr] (.int .i64 (X.flushD p.n X.D.L).1) (X.flushD p.n X.D.L).2 :=
  PairP.mk hr hn htab H hm (k := 100) (by omega) (fun W F h => by
    refine (fa_calls (pa_sys hr) h (by omega) h64 (sorts_by _ _)).mono ?_
    rintro e w' ⟨l', h1, h2, h3, h4⟩
    rw [flush_both h.2.1 h1 h2] at h3 h4
    exact ⟨h3, h4⟩) (fun W G h hI => by rw [hn]; exact qf_flushAll h hI (by omega) hl)
theorem pair_delete {id : Nat} (hu : id < 4294967296) : PairP p q lb w0 w X m ob oc 37 38 #[p.ptr, .int .u32 id] #[q.ptr, .int .u32 id] (.int .i64 (X.delete advP p.n id).1) (X.delete advP p.n id).2 :=
  PairP.mk hr hn htab H hm (k := 10) (by omega) (fun W F h => de_calls (pa_sys hr) h (by omega) hu) (fun W G h hI => by
    rw [hn]
    refine (qf_delete h hI (by omega) id).mono ?_
    rintro e w' ⟨he, hl⟩
    exact ⟨he, hl.mono (fun F' h' => h'.more (by omega))⟩)
theorem pair_fail {id : Nat} (hu : id < 4294967296) (b : Bool) (t : Int) (ht : isI63 t.toNat) : PairP p q lb w0 w X m ob oc 39 40 #[.pointer (some ⟨p.db, 0, none⟩), .int .u32 id, .bool b, .int .i64 t] #[.pointer (some ⟨q.rb, 0, none⟩), .int .u32 id, .bool b, .int .i64 t] (.tuple #[]) { X with D := X.D.fail id b t.toNat } :=
  PairP.mk hr hn htab H hm (k := 1) (by omega) (fun W F h => fail_pw (pa_sys hr) h (by omega) hu b t ht) (fun W G h hI => h.dfail (by omega) id b t ht)
theorem pair_stop (t : Int) (ht : isI63 t.toNat) : PairP p q lb w0 w X m ob oc 41 42 #[.pointer (some ⟨p.db, 0, none⟩), .int .i64 t] #[.pointer (some ⟨q.rb, 0, none⟩), .int .i64 t] (.tuple #[]) { X with D := { X.D with stops := true, left := (t.toNat : Int) } } :=
  PairP.mk hr hn htab H hm (k := 0) (by omega) (fun W F h => stop_pw (pa_sys hr) h t ht) (fun W G h hI => h.dstop t ht)
end
end
end Go.Proofs.YtnideelidfpicaaGreatDoor
namespace Go.Proofs.YtnideelidfpicaaGreatDoor
open Go.RowKit Go.Maps
set_option linter.unusedVariables false
set_option linter.unusedSimpArgs false
set_option linter.unusedSectionVars false
set_option maxRecDepth 100000
section
variable {w0 w w' : World} {p : PP} {q : QQ} {lb m : Nat} {X : PS (List Int)}
/-- What is to be done. -/
def opC3 (k : Int) (id v : Nat) : Nat → Value
  | 0 => .int .i64 k
  | 1 => .int .u32 id
  | _ => .int .u64 v
theorem TE.op (hr : p.rv = advV lb) (H : TE p q lb w0 w X m) (zk : Int) (zi zv : Nat) : TB p q lb w0 (w.alloc (.cells #[.int .i64 zk, .int .u32 zi, .int .u64 zv] 45)) X X m m w.heap.size (opC3 zk zi zv) :=
  H.with hr (Blk.new _ _ _ 3 _ _ rfl rfl (fun i hi => by
    match i, hi with
    | 0, _ => rfl
    | 1, _ => rfl
    | 2, _ => rfl)) ((Fr.refl NoF w).alloc _) (Nat.le_refl _)
set_option maxHeartbeats 4000000 in
theorem both_new (hr : p.rv = advV lb) (hn : p.n = q.n) (htab : 0 < w0.heap.size) (H : TE p q lb w0 w X m) (hm : m < 50000) (h64 : p.n ≤ 64) (hl : X.D.L.length ≤ 100) {zk : Int} {zi zv : Nat} (hu : zi < 4294967296) (hv : zv < 18446744073709551616) (ek : wrap64 ((IntKind.u64.wrap zk).tmod 10) = 0) :
    Calls Tryz.prog 9 #[p.ptr, q.ptr, .pointer (some ⟨p.db, 0, none⟩), .agg #[.int .i64 zk, .int .u32 zi, .int .u64 zv]] w fun e w' => e = .returned (.bool true) ∧ TE p q lb w0 w' (X.newPage advP p.n).2 (m + 100) := by
  have HRV := Lib.hid hr
  have HNN := Lib.hid hn
  have HB := Lib.hid (H.op hr zk zi zv)
  have hp := pair_new HRV.out HNN.out htab HB.out hm
  have HD := hp.1
  have HR := hp.2
  generalize X.newPage advP p.n = R at *
  obtain ⟨⟨ra, rb⟩, X1⟩ := R
  dsimp only at *
  clear H hp hr hn htab hm h64 hl
  unfold PP.ptr QQ.ptr at *
  go_enter Tryz.func9, Tryz.ntmps9
  go_wp2_with fail
  refine (HD.out _ (Fr.refl NoF _)).mono ?_
  rintro e w4 ⟨rfl, h4⟩
  have H4 := Lib.hid h4
  have l4 : w.heap.size < w4.heap.size := H4.out.lt
  clear h4 HD
  go_wp2_with fail
  refine (HR.out _ H4.out).mono ?_
  rintro e w5 ⟨rfl, h5⟩
  have H5 := Lib.hid h5.e
  clear h5 HR H4
  go_wp2
  go_returns
  exact ⟨by first | rfl | simp, H5.out⟩
set_option maxHeartbeats 4000000 in
theorem both_read (hr : p.rv = advV lb) (hn : p.n = q.n) (htab : 0 < w0.heap.size) (H : TE p q lb w0 w X m) (hm : m < 50000) (h64 : p.n ≤ 64) (hl : X.D.L.length ≤ 100) {zk : Int} {zi zv : Nat} (hu : zi < 4294967296) (hv : zv < 18446744073709551616) (ek : wrap64 ((IntKind.u64.wrap zk).tmod 10) = 3) :
    Calls Tryz.prog 9 #[p.ptr, q.ptr, .pointer (some ⟨p.db, 0, none⟩), .agg #[.int .i64 zk, .int .u32 zi, .int .u64 zv]] w fun e w' => e = .returned (.bool true) ∧ TE p q lb w0 w' X (m + 100) := by
  have HRV := Lib.hid hr
  have HNN := Lib.hid hn
  have HB := Lib.hid (H.op hr zk zi zv)
  have hp := pair_read HRV.out HNN.out htab HB.out hm hu
  have HD := hp.1
  have HR := hp.2
  generalize X.read p.n zi = R at *
  obtain ⟨ra, rb⟩ := R
  dsimp only at *
  clear H hp hr hn htab hm h64 hl
  unfold PP.ptr QQ.ptr at *
  go_enter Tryz.func9, Tryz.ntmps9
  go_wp2_with fail
  refine (HD.out _ (Fr.refl NoF _)).mono ?_
  rintro e w4 ⟨rfl, h4⟩
  have H4 := Lib.hid h4
  have l4 : w.heap.size < w4.heap.size := H4.out.lt
  have c41 : w4.cell? ⟨w.heap.size, 1, none⟩ = some (.int .u32 zi) := H4.out.cell (Fr.refl NoF _) (by omega)
  clear h4 HD
  go_wp2_with fail
  refine (HR.out _ H4.out).mono ?_
  rintro e w5 ⟨rfl, h5⟩
  have H5 := Lib.hid h5.e
  clear h5 HR H4
  go_wp2
  go_returns
  exact ⟨by first | rfl | simp, H5.out⟩
set_option maxHeartbeats 4000000 in
theorem both_flushAll (hr : p.rv = advV lb) (hn : p.n = q.n) (htab : 0 < w0.heap.size) (H : TE p q lb w0 w X m) (hm : m < 50000) (h64 : p.n ≤ 64) (hl : X.D.L.length ≤ 100) {zk : Int} {zi zv : Nat} (hu : zi < 4294967296) (hv : zv < 18446744073709551616) (ek : wrap64 ((IntKind.u64.wrap zk).tmod 10) = 6) :
    Calls Tryz.prog 9 #[p.ptr, q.ptr, .pointer (some ⟨p.db, 0, none⟩), .agg #[.int .i64 zk, .int .u32 zi, .int .u64 zv]] w fun e w' => e = .returned (.bool true) ∧ TE p q lb w0 w' (X.flushD p.n X.D.L).2 (m + 100) := by
  have HRV := Lib.hid hr
  have HNN := Lib.hid hn
  have HB := Lib.hid (H.op hr zk zi zv)
  have hp := pair_flushAll HRV.out HNN.out htab HB.out hm h64 hl
  have HD := hp.1
  have HR := hp.2
  generalize X.flushD p.n X.D.L = R at *
  obtain ⟨ra, X1⟩ := R
  dsimp only at *
  clear H hp hr hn htab hm h64 hl
  unfold PP.ptr QQ.ptr at *
  go_enter Tryz.func9, Tryz.ntmps9
  go_wp2_with fail
  refine (HD.out _ (Fr.refl NoF _)).mono ?_
  rintro e w4 ⟨rfl, h4⟩
  have H4 := Lib.hid h4
  have l4 : w.heap.size < w4.heap.size := H4.out.lt
  clear h4 HD
  go_wp2_with fail
  refine (HR.out _ H4.out).mono ?_
  rintro e w5 ⟨rfl, h5⟩
  have H5 := Lib.hid h5.e
  clear h5 HR H4
  go_wp2
  go_returns
  exact ⟨by first | rfl | simp, H5.out⟩
end
end Go.Proofs.YtnideelidfpicaaGreatDoor
namespace Go.Proofs.YtnideelidfpicaaGreatDoor
open Go.RowKit Go.Maps
set_option linter.unusedVariables false
set_option linter.unusedSimpArgs false
set_option linter.unusedSectionVars false
set_option maxRecDepth 100000
section
variable {w0 w w' : World} {p : PP} {q : QQ} {lb m : Nat} {X : PS (List Int)}
set_option maxHeartbeats 4000000 in
theorem both_fetch (hr : p.rv = advV lb) (hn : p.n = q.n) (htab : 0 < w0.heap.size) (H : TE p q lb w0 w X m) (hm : m < 50000) (h64 : p.n ≤ 64) (hl : X.D.L.length ≤ 100) {zk : Int} {zi zv : Nat} (hu : zi < 4294967296) (hv : zv < 18446744073709551616) (ek : wrap64 ((IntKind.u64.wrap zk).tmod 10) = 1) :
    Calls Tryz.prog 9 #[p.ptr, q.ptr, .pointer (some ⟨p.db, 0, none⟩), .agg #[.int .i64 zk, .int .u32 zi, .int .u64 zv]] w fun e w' => e = .returned (.bool true) ∧ TE p q lb w0 w' (X.fetch advP p.n zi).2 (m + 100) := by
  have HRV := Lib.hid hr
  have HNN := Lib.hid hn
  have HB := Lib.hid (H.op hr zk zi zv)
  have hp := pair_fetch HRV.out HNN.out htab HB.out hm hu
  have HD := hp.1
  have HR := hp.2
  generalize X.fetch advP p.n zi = R at *
  obtain ⟨ra, X1⟩ := R
  dsimp only at *
  clear H hp hr hn htab hm h64 hl
  unfold PP.ptr QQ.ptr at *
  go_enter Tryz.func9, Tryz.ntmps9
  go_wp2_with fail
  go_region_held3 (fun w' => w'.cell? ⟨w.heap.size, 1, none⟩ = some (.int .u32 zi))
    (first | exact H5.out.cell (by repeat (first | exact Fr.refl NoF _ | apply Fr.drew | apply Fr.drewN)) (by omega) | exact H4.out.cell (by repeat (first | exact Fr.refl NoF _ | apply Fr.drew | apply Fr.drewN)) (by omega) | exact HB.out.cell (by repeat (first | exact Fr.refl NoF _ | apply Fr.drew | apply Fr.drewN)) (by omega))
    (first
      | (go_at_call 21; (with_reducible refine (HD.out _ (by repeat (first | exact Fr.refl NoF _ | apply Fr.drew | apply Fr.drewN))).mono ?_); rintro e w4 ⟨rfl, h4⟩; have H4 := Lib.hid h4; clear h4)
      | (go_at_call 27; (with_reducible refine (HR.out _ (H4.out.fr0 HRV.out (by repeat (first | exact Fr.refl NoF _ | apply Fr.drew | apply Fr.drewN)))).mono ?_); rintro e w5 ⟨rfl, h5⟩; have H5 := Lib.hid h5; clear h5))
  all_goals
    clear HD HR H4
    have HE5 := Lib.hid H5.out.e
    clear H5
    go_wp2
    go_returns
    exact ⟨by first | rfl | simp, HE5.out⟩
set_option maxHeartbeats 4000000 in
theorem both_unpin (hr : p.rv = advV lb) (hn : p.n = q.n) (htab : 0 < w0.heap.size) (H : TE p q lb w0 w X m) (hm : m < 50000) (h64 : p.n ≤ 64) (hl : X.D.L.length ≤ 100) {zk : Int} {zi zv : Nat} (hu : zi < 4294967296) (hv : zv < 18446744073709551616) (ek : wrap64 ((IntKind.u64.wrap zk).tmod 10) = 2) :
    Calls Tryz.prog 9 #[p.ptr, q.ptr, .pointer (some ⟨p.db, 0, none⟩), .agg #[.int .i64 zk, .int .u32 zi, .int .u64 zv]] w fun e w' => e = .returned (.bool true) ∧ TE p q lb w0 w' (X.unpin advP p.n zi).2 (m + 100) := by
  have HRV := Lib.hid hr
  have HNN := Lib.hid hn
  have HB := Lib.hid (H.op hr zk zi zv)
  have hp := pair_unpin HRV.out HNN.out htab HB.out hm hu
  have HD := hp.1
  have HR := hp.2
  generalize X.unpin advP p.n zi = R at *
  obtain ⟨ra, X1⟩ := R
  dsimp only at *
  clear H hp hr hn htab hm h64 hl
  unfold PP.ptr QQ.ptr at *
  go_enter Tryz.func9, Tryz.ntmps9
  go_wp2_with fail
  go_region_held3 (fun w' => w'.cell? ⟨w.heap.size, 1, none⟩ = some (.int .u32 zi))
    (first | exact H5.out.cell (by repeat (first | exact Fr.refl NoF _ | apply Fr.drew | apply Fr.drewN)) (by omega) | exact H4.out.cell (by repeat (first | exact Fr.refl NoF _ | apply Fr.drew | apply Fr.drewN)) (by omega) | exact HB.out.cell (by repeat (first | exact Fr.refl NoF _ | apply Fr.drew | apply Fr.drewN)) (by omega))
    (first
      | (go_at_call 20; (with_reducible refine (HD.out _ (by repeat (first | exact Fr.refl NoF _ | apply Fr.drew | apply Fr.drewN))).mono ?_); rintro e w4 ⟨rfl, h4⟩; have H4 := Lib.hid h4; clear h4)
      | (go_at_call 28; (with_reducible refine (HR.out _ (H4.out.fr0 HRV.out (by repeat (first | exact Fr.refl NoF _ | apply Fr.drew | apply Fr.drewN)))).mono ?_); rintro e w5 ⟨rfl, h5⟩; have H5 := Lib.hid h5; clear h5))
  all_goals
    clear HD HR H4
    have HE5 := Lib.hid H5.out.e
    clear H5
    go_wp2
    go_returns
    exact ⟨by first | rfl | simp, HE5.out⟩
set_option maxHeartbeats 4000000 in
theorem both_write (hr : p.rv = advV lb) (hn : p.n = q.n) (htab : 0 < w0.heap.size) (H : TE p q lb w0 w X m) (hm : m < 50000) (h64 : p.n ≤ 64) (hl : X.D.L.length ≤ 100) {zk : Int} {zi zv : Nat} (hu : zi < 4294967296) (hv : zv < 18446744073709551616) (ek : wrap64 ((IntKind.u64.wrap zk).tmod 10) = 4) :
    Calls Tryz.prog 9 #[p.ptr, q.ptr, .pointer (some ⟨p.db, 0, none⟩), .agg #[.int .i64 zk, .int .u32 zi, .int .u64 zv]] w fun e w' => e = .returned (.bool true) ∧ TE p q lb w0 w' (X.write p.n zi zv).2 (m + 100) := by
  have HRV := Lib.hid hr
  have HNN := Lib.hid hn
  have HB := Lib.hid (H.op hr zk zi zv)
  have hp := pair_write HRV.out HNN.out htab HB.out hm hu hv
  have HD := hp.1
  have HR := hp.2
  generalize X.write p.n zi zv = R at *
  obtain ⟨ra, X1⟩ := R
  dsimp only at *
  clear H hp hr hn htab hm h64 hl
  unfold PP.ptr QQ.ptr at *
  go_enter Tryz.func9, Tryz.ntmps9
  go_wp2_with fail
  go_region_held3 (fun w' => w'.cell? ⟨w.heap.size, 1, none⟩ = some (.int .u32 zi) ∧ w'.cell? ⟨w.heap.size, 2, none⟩ = some (.int .u64 zv))
    (first | exact ⟨H5.out.cell (by repeat (first | exact Fr.refl NoF _ | apply Fr.drew | apply Fr.drewN)) (by omega), H5.out.cell (by repeat (first | exact Fr.refl NoF _ | apply Fr.drew | apply Fr.drewN)) (by omega)⟩ | exact ⟨H4.out.cell (by repeat (first | exact Fr.refl NoF _ | apply Fr.drew | apply Fr.drewN)) (by omega), H4.out.cell (by repeat (first | exact Fr.refl NoF _ | apply Fr.drew | apply Fr.drewN)) (by omega)⟩ | exact ⟨HB.out.cell (by repeat (first | exact Fr.refl NoF _ | apply Fr.drew | apply Fr.drewN)) (by omega), HB.out.cell (by repeat (first | exact Fr.refl NoF _ | apply Fr.drew | apply Fr.drewN)) (by omega)⟩)
    (first
      | (go_at_call 31; (with_reducible refine (HD.out _ (by repeat (first | exact Fr.refl NoF _ | apply Fr.drew | apply Fr.drewN))).mono ?_); rintro e w4 ⟨rfl, h4⟩; have H4 := Lib.hid h4; clear h4)
      | (go_at_call 32; (with_reducible refine (HR.out _ (H4.out.fr0 HRV.out (by repeat (first | exact Fr.refl NoF _ | apply Fr.drew | apply Fr.drewN)))).mono ?_); rintro e w5 ⟨rfl, h5⟩; have H5 := Lib.hid h5; clear h5))
  all_goals
    clear HD HR H4
    have HE5 := Lib.hid H5.out.e
    clear H5
    go_wp2
    go_returns
    exact ⟨by first | rfl | simp, HE5.out⟩
set_option maxHeartbeats 4000000 in
theorem both_flush (hr : p.rv = advV lb) (hn : p.n = q.n) (htab : 0 < w0.heap.size) (H : TE p q lb w0 w X m) (hm : m < 50000) (h64 : p.n ≤ 64) (hl : X.D.L.length ≤ 100) {zk : Int} {zi zv : Nat} (hu : zi < 4294967296) (hv : zv < 18446744073709551616) (ek : wrap64 ((IntKind.u64.wrap zk).tmod 10) = 5) :
    Calls Tryz.prog 9 #[p.ptr, q.ptr, .pointer (some ⟨p.db, 0, none⟩), .agg #[.int .i64 zk, .int .u32 zi, .int .u64 zv]] w fun e w' => e = .returned (.bool true) ∧ TE p q lb w0 w' (X.flush p.n zi).2 (m + 100) := by
  have HRV := Lib.hid hr
  have HNN := Lib.hid hn
  have HB := Lib.hid (H.op hr zk zi zv)
  have hp := pair_flush HRV.out HNN.out htab HB.out hm hu
  have HD := hp.1
  have HR := hp.2
  generalize X.flush p.n zi = R at *
  obtain ⟨ra, X1⟩ := R
  dsimp only at *
  clear H hp hr hn htab hm h64 hl
  unfold PP.ptr QQ.ptr at *
  go_enter Tryz.func9, Tryz.ntmps9
  go_wp2_with fail
  go_region_held3 (fun w' => w'.cell? ⟨w.heap.size, 1, none⟩ = some (.int .u32 zi))
    (first | exact H5.out.cell (by repeat (first | exact Fr.refl NoF _ | apply Fr.drew | apply Fr.drewN)) (by omega) | exact H4.out.cell (by repeat (first | exact Fr.refl NoF _ | apply Fr.drew | apply Fr.drewN)) (by omega) | exact HB.out.cell (by repeat (first | exact Fr.refl NoF _ | apply Fr.drew | apply Fr.drewN)) (by omega))
    (first
      | (go_at_call 33; (with_reducible refine (HD.out _ (by repeat (first | exact Fr.refl NoF _ | apply Fr.drew | apply Fr.drewN))).mono ?_); rintro e w4 ⟨rfl, h4⟩; have H4 := Lib.hid h4; clear h4)
      | (go_at_call 34; (with_reducible refine (HR.out _ (H4.out.fr0 HRV.out (by repeat (first | exact Fr.refl NoF _ | apply Fr.drew | apply Fr.drewN)))).mono ?_); rintro e w5 ⟨rfl, h5⟩; have H5 := Lib.hid h5; clear h5))
  all_goals
    clear HD HR H4
    have HE5 := Lib.hid H5.out.e
    clear H5
    go_wp2
    go_returns
    exact ⟨by first | rfl | simp, HE5.out⟩
set_option maxHeartbeats 4000000 in
theorem both_delete (hr : p.rv = advV lb) (hn : p.n = q.n) (htab : 0 < w0.heap.size) (H : TE p q lb w0 w X m) (hm : m < 50000) (h64 : p.n ≤ 64) (hl : X.D.L.length ≤ 100) {zk : Int} {zi zv : Nat} (hu : zi < 4294967296) (hv : zv < 18446744073709551616) (ek : wrap64 ((IntKind.u64.wrap zk).tmod 10) = 7) :
    Calls Tryz.prog 9 #[p.ptr, q.ptr, .pointer (some ⟨p.db, 0, none⟩), .agg #[.int .i64 zk, .int .u32 zi, .int .u64 zv]] w fun e w' => e = .returned (.bool true) ∧ TE p q lb w0 w' (X.delete advP p.n zi).2 (m + 100) := by
  have HRV := Lib.hid hr
  have HNN := Lib.hid hn
  have HB := Lib.hid (H.op hr zk zi zv)
  have hp := pair_delete HRV.out HNN.out htab HB.out hm hu
  have HD := hp.1
  have HR := hp.2
  generalize X.delete advP p.n zi = R at *
  obtain ⟨ra, X1⟩ := R
  dsimp only at *
  clear H hp hr hn htab hm h64 hl
  unfold PP.ptr QQ.ptr at *
  go_enter Tryz.func9, Tryz.ntmps9
  go_wp2_with fail
  go_region_held3 (fun w' => w'.cell? ⟨w.heap.size, 1, none⟩ = some (.int .u32 zi))
    (first | exact H5.out.cell (by repeat (first | exact Fr.refl NoF _ | apply Fr.drew | apply Fr.drewN)) (by omega) | exact H4.out.cell (by repeat (first | exact Fr.refl NoF _ | apply Fr.drew | apply Fr.drewN)) (by omega) | exact HB.out.cell (by repeat (first | exact Fr.refl NoF _ | apply Fr.drew | apply Fr.drewN)) (by omega))
    (first
      | (go_at_call 37; (with_reducible refine (HD.out _ (by repeat (first | exact Fr.refl NoF _ | apply Fr.drew | apply Fr.drewN))).mono ?_); rintro e w4 ⟨rfl, h4⟩; have H4 := Lib.hid h4; clear h4)
      | (go_at_call 38; (with_reducible refine (HR.out _ (H4.out.fr0 HRV.out (by repeat (first | exact Fr.refl NoF _ | apply Fr.drew | apply Fr.drewN)))).mono ?_); rintro e w5 ⟨rfl, h5⟩; have H5 := Lib.hid h5; clear h5))
  all_goals
    clear HD HR H4
    have HE5 := Lib.hid H5.out.e
    clear H5
    go_wp2
    go_returns
    exact ⟨by first | rfl | simp, HE5.out⟩
end
end Go.Proofs.YtnideelidfpicaaGreatDoor
namespace Go.Proofs.YtnideelidfpicaaGreatDoor
open Go.RowKit Go.Maps
set_option linter.unusedVariables false
set_option linter.unusedSimpArgs false
set_option linter.unusedSectionVars false
set_option maxRecDepth 100000
section
variable {w0 w w' : World} {p : PP} {q : QQ} {lb m : Nat} {X : PS (List Int)}
theorem TB.rc {m' ob : Nat} {Y : PS (List Int)} {oc : Nat → Value} (H : TB p q lb w0 w X Y m m' ob oc) (g : Fr NoF w w') : w'.cell? ⟨q.pb, 0, none⟩ = some (.pointer (some ⟨q.rb, 0, none⟩)) ∧ q.pb < w'.heap.size := by
  obtain ⟨F, G, h1, h2, _⟩ := H
  have h := (h2.fr0 g).c
  exact ⟨h.1, h.2.2.1⟩
set_option maxHeartbeats 4000000 in
theorem both_fail (hr : p.rv = advV lb) (hn : p.n = q.n) (htab : 0 < w0.heap.size) (H : TE p q lb w0 w X m) (hm : m < 50000) (h64 : p.n ≤ 64) (hl : X.D.L.length ≤ 100) {zk : Int} {zi zv : Nat} (hu : zi < 4294967296) (hv : zv < 18446744073709551616) (ek : wrap64 ((IntKind.u64.wrap zk).tmod 10) = 8) :
    Calls Tryz.prog 9 #[p.ptr, q.ptr, .pointer (some ⟨p.db, 0, none⟩), .agg #[.int .i64 zk, .int .u32 zi, .int .u64 zv]] w fun e w' => e = .returned (.bool true) ∧ TE p q lb w0 w' ({ X with D := X.D.fail zi ((zv : Int) % 2 == 1) ((zv : Int) % 4).toNat } : PS (List Int)) (m + 100) := by
  have HRV := Lib.hid hr
  have HB := Lib.hid (H.op hr zk zi zv)
  have hp := pair_fail hr hn htab HB.out hm hu ((zv : Int) % 2 == 1) ((zv : Int) % 4) (by unfold isI63; omega)
  have HD := hp.1
  have hR := hp.2.out
  generalize ({ X with D := X.D.fail zi ((zv : Int) % 2 == 1) ((zv : Int) % 4).toNat } : PS (List Int)) = X1 at *
  rw [show ((zv : Int) % 2 == 1) = ((zv : Int).tmod 2 == 1) from by rw [Int.tmod_eq_emod_of_nonneg (by omega)], show (zv : Int) % 4 = IntKind.i64.wrap ((zv : Int).tmod 4) from by rw [Int.tmod_eq_emod_of_nonneg (by omega)]; exact (IntWalk.i64_in _ (by omega)).symm] at hR
  have HR := Lib.hid hR
  clear hR
  clear H hp hr hn htab hm h64 hl
  unfold PP.ptr QQ.ptr at *
  go_enter Tryz.func9, Tryz.ntmps9
  go_wp2_with fail
  refine (HD.out _ (Fr.refl NoF _)).mono ?_
  rintro e w4 ⟨rfl, h4⟩
  have H4 := Lib.hid h4
  have l4 : w.heap.size < w4.heap.size := H4.out.lt
  have l5 : q.pb < w4.heap.size := (H4.out.rc (Fr.refl NoF _)).2
  clear h4 HD
  go_wp2_with fail
  go_region_held3 (fun w' => w'.cell? ⟨q.pb, 0, none⟩ = some (.pointer (some ⟨q.rb, 0, none⟩)) ∧ w'.cell? ⟨w.heap.size, 1, none⟩ = some (.int .u32 zi) ∧ w'.cell? ⟨w.heap.size, 2, none⟩ = some (.int .u64 zv))
    (first | exact ⟨(H5.out.rc (by repeat (first | exact Fr.refl NoF _ | apply Fr.drew | apply Fr.drewN))).1, H5.out.cell (by repeat (first | exact Fr.refl NoF _ | apply Fr.drew | apply Fr.drewN)) (by omega), H5.out.cell (by repeat (first | exact Fr.refl NoF _ | apply Fr.drew | apply Fr.drewN)) (by omega)⟩ | exact ⟨(H4.out.rc (by repeat (first | exact Fr.refl NoF _ | apply Fr.drew | apply Fr.drewN))).1, H4.out.cell (by repeat (first | exact Fr.refl NoF _ | apply Fr.drew | apply Fr.drewN)) (by omega), H4.out.cell (by repeat (first | exact Fr.refl NoF _ | apply Fr.drew | apply Fr.drewN)) (by omega)⟩)
    (first | (go_at_call 40; (with_reducible refine (HR.out _ (H4.out.fr0 HRV.out (by repeat (first | exact Fr.refl NoF _ | apply Fr.drew | apply Fr.drewN)))).mono ?_); rintro e w5 ⟨rfl, h5⟩; have H5 := Lib.hid h5; clear h5))
  all_goals
    clear HR H4
    have HE5 := Lib.hid H5.out.e
    clear H5
    go_wp2
    go_returns
    exact ⟨by first | rfl | simp, HE5.out⟩
set_option maxHeartbeats 4000000 in
theorem both_stop (hr : p.rv = advV lb) (hn : p.n = q.n) (htab : 0 < w0.heap.size) (H : TE p q lb w0 w X m) (hm : m < 50000) (h64 : p.n ≤ 64) (hl : X.D.L.length ≤ 100) {zk : Int} {zi zv : Nat} (hu : zi < 4294967296) (hv : zv < 18446744073709551616) (ek : wrap64 ((IntKind.u64.wrap zk).tmod 10) = 9) :
    Calls Tryz.prog 9 #[p.ptr, q.ptr, .pointer (some ⟨p.db, 0, none⟩), .agg #[.int .i64 zk, .int .u32 zi, .int .u64 zv]] w fun e w' => e = .returned (.bool true) ∧ TE p q lb w0 w' ({ X with D := { X.D with stops := true, left := ((((zv : Int) % 64).toNat : Nat) : Int) } } : PS (List Int)) (m + 100) := by
  have HRV := Lib.hid hr
  have HB := Lib.hid (H.op hr zk zi zv)
  have hp := pair_stop hr hn htab HB.out hm ((zv : Int) % 64) (by unfold isI63; omega)
  have HD := hp.1
  have hR := hp.2.out
  generalize ({ X with D := { X.D with stops := true, left := ((((zv : Int) % 64).toNat : Nat) : Int) } } : PS (List Int)) = X1 at *
  rw [show (zv : Int) % 64 = IntKind.i64.wrap ((zv : Int).tmod 64) from by rw [Int.tmod_eq_emod_of_nonneg (by omega)]; exact (IntWalk.i64_in _ (by omega)).symm] at hR
  have HR := Lib.hid hR
  clear hR
  clear H hp hr hn htab hm h64 hl
  unfold PP.ptr QQ.ptr at *
  go_enter Tryz.func9, Tryz.ntmps9
  go_wp2_with fail
  refine (HD.out _ (Fr.refl NoF _)).mono ?_
  rintro e w4 ⟨rfl, h4⟩
  have H4 := Lib.hid h4
  have l4 : w.heap.size < w4.heap.size := H4.out.lt
  have l5 : q.pb < w4.heap.size := (H4.out.rc (Fr.refl NoF _)).2
  clear h4 HD
  go_wp2_with fail
  go_region_held3 (fun w' => w'.cell? ⟨q.pb, 0, none⟩ = some (.pointer (some ⟨q.rb, 0, none⟩)) ∧ w'.cell? ⟨w.heap.size, 2, none⟩ = some (.int .u64 zv))
    (first | exact ⟨(H5.out.rc (by repeat (first | exact Fr.refl NoF _ | apply Fr.drew | apply Fr.drewN))).1, H5.out.cell (by repeat (first | exact Fr.refl NoF _ | apply Fr.drew | apply Fr.drewN)) (by omega)⟩ | exact ⟨(H4.out.rc (by repeat (first | exact Fr.refl NoF _ | apply Fr.drew | apply Fr.drewN))).1, H4.out.cell (by repeat (first | exact Fr.refl NoF _ | apply Fr.drew | apply Fr.drewN)) (by omega)⟩)
    (first | (go_at_call 42; (with_reducible refine (HR.out _ (H4.out.fr0 HRV.out (by repeat (first | exact Fr.refl NoF _ | apply Fr.drew | apply Fr.drewN)))).mono ?_); rintro e w5 ⟨rfl, h5⟩; have H5 := Lib.hid h5; clear h5))
  all_goals
    clear HR H4
    have HE5 := Lib.hid H5.out.e
    clear H5
    go_wp2
    go_returns
    exact ⟨by first | rfl | simp, HE5.out⟩
end
end Go.Proofs.YtnideelidfpicaaGreatDoor
namespace Go.Proofs.YtnideelidfpicaaGreatDoor
open Go.RowKit Go.Maps
set_option linter.unusedVariables false
set_option linter.unusedSimpArgs false
set_option linter.unusedSectionVars false
theorem free_room (r : RS) (id : Nat) : (r.free id).2.room = r.room := by unfold RS.free; split <;> rfl
theorem fail_room (r : RS) (id : Nat) (b : Bool) (t : Nat) : (r.fail id b t).room = r.room := by unfold RS.fail; split <;> rfl
theorem Inv.len {n : Nat} {f : Nat → FrS} {D : RS} (H : Inv n f D) : D.L.length ≤ D.room := by
  obtain ⟨s, hs⟩ := H.dr
  have h1 := plR_len s.pg 0 s.np
  have h2 := hs.np
  rw [hs.room, hs.L]
  unfold plL
  omega
section
variable {τ : Type} (P : Adv τ) (n : Nat) (X : PS τ)
theorem room_room (id : Nat) : (X.room P n id).2.D.room = X.D.room := by
  unfold PS.room
  cases fstB n (emB n X.f) with
  | some x => rfl
  | none =>
    dsimp only
    split
    · split
      · exact (RS.write_ids _ _ _).2
      · exact (RS.write_ids _ _ _).2
    · rfl
theorem new_room : (X.newPage P n).2.D.room = X.D.room := by
  unfold PS.newPage
  split
  · rfl
  · split
    · rfl
    · have h := room_room P n { X with D := X.D.ins (gapOf X.D.L) } (gapOf X.D.L + 1)
      split
      · show (RS.free _ _).2.room = _
        rw [free_room, h]; rfl
      · show (PS.room P n _ _).2.D.room = _
        rw [h]; rfl
theorem fetch_room (id : Nat) : (X.fetch P n id).2.D.room = X.D.room := by
  unfold PS.fetch
  split
  · split
    · rfl
    · split
      · rfl
      · have h := room_room P n X id
        split
        · exact h
        · split
          · show (RS.read _ _).2.room = _
            rw [(RS.read_L _ _).2, h]
          · show (RS.read _ _).2.room = _
            rw [(RS.read_L _ _).2, h]
  · rfl
theorem unpin_room (id : Nat) : (X.unpin P n id).2.D.room = X.D.room := by unfold PS.unpin; split <;> rfl
theorem pwrite_room (id v : Nat) : (X.write n id v).2.D.room = X.D.room := by unfold PS.write; split <;> rfl
theorem clean_room (k : Nat) : (X.clean k).2.D.room = X.D.room := by
  unfold PS.clean
  split
  · split
    · exact (RS.write_ids _ _ _).2
    · exact (RS.write_ids _ _ _).2
  · rfl
theorem flush_room (id : Nat) : (X.flush n id).2.D.room = X.D.room := by
  unfold PS.flush
  split
  · split
    · exact clean_room _ _
    · rfl
  · rfl
theorem flushD_room (l : List (Nat × Nat)) : ∀ (a : Nat) (X : PS τ), (l.foldl (flD n) (a, X)).2.D.room = X.D.room := by
  induction l with
  | nil => intro a X; rfl
  | cons p l ih =>
    intro a X
    rw [List.foldl_cons]
    have h := ih (if (X.flush n p.1).1 = 0 then a else (X.flush n p.1).1) (X.flush n p.1).2
    rw [flush_room n X p.1] at h
    exact h
theorem delete_room (id : Nat) : (X.delete P n id).2.D.room = X.D.room := by
  unfold PS.delete
  split
  · split
    · split
      · exact free_room _ _
      · rfl
    · exact free_room _ _
  · rfl
end
section
variable {w0 w w' : World} {p : PP} {q : QQ} {lb m : Nat} {X : PS (List Int)}
/-- WHATEVER IS DONE. -/
theorem both_calls (hr : p.rv = advV lb) (hn : p.n = q.n) (htab : 0 < w0.heap.size) (H : TE p q lb w0 w X m) (hm : m < 50000) (h64 : p.n ≤ 64) (hroom : X.D.room ≤ 100) (zk : Int) {zi zv : Nat} (hu : zi < 4294967296) (hv : zv < 18446744073709551616) :
    Calls Tryz.prog 9 #[p.ptr, q.ptr, .pointer (some ⟨p.db, 0, none⟩), .agg #[.int .i64 zk, .int .u32 zi, .int .u64 zv]] w fun e w' => e = .returned (.bool true) ∧ ∃ X' : PS (List Int), TE p q lb w0 w' X' (m + 100) ∧ X'.D.room = X.D.room := by
  have hl : X.D.L.length ≤ 100 := by
    obtain ⟨F, G, h1, _⟩ := H
    have := h1.2.1.len
    omega
  obtain ⟨j, hj, ek⟩ := modu zk (k := 10) (by decide) (by decide)
  match j, hj, ek with
  | 0, _, ek => exact (both_new hr hn htab H hm h64 hl hu hv ek).mono fun e w' ⟨he, h⟩ => ⟨he, _, h, new_room _ _ _⟩
  | 1, _, ek => exact (both_fetch hr hn htab H hm h64 hl hu hv ek).mono fun e w' ⟨he, h⟩ => ⟨he, _, h, fetch_room _ _ _ _⟩
  | 2, _, ek => exact (both_unpin hr hn htab H hm h64 hl hu hv ek).mono fun e w' ⟨he, h⟩ => ⟨he, _, h, unpin_room _ _ _ _⟩
  | 3, _, ek => exact (both_read hr hn htab H hm h64 hl hu hv ek).mono fun e w' ⟨he, h⟩ => ⟨he, _, h, rfl⟩
  | 4, _, ek => exact (both_write hr hn htab H hm h64 hl hu hv ek).mono fun e w' ⟨he, h⟩ => ⟨he, _, h, pwrite_room _ _ _ _⟩
  | 5, _, ek => exact (both_flush hr hn htab H hm h64 hl hu hv ek).mono fun e w' ⟨he, h⟩ => ⟨he, _, h, flush_room _ _ _⟩
  | 6, _, ek => exact (both_flushAll hr hn htab H hm h64 hl hu hv ek).mono fun e w' ⟨he, h⟩ => ⟨he, _, h, flushD_room _ _ 0 X⟩
  | 7, _, ek => exact (both_delete hr hn htab H hm h64 hl hu hv ek).mono fun e w' ⟨he, h⟩ => ⟨he, _, h, delete_room _ _ _ _⟩
  | 8, _, ek => exact (both_fail hr hn htab H hm h64 hl hu hv ek).mono fun e w' ⟨he, h⟩ => ⟨he, _, h, fail_room _ _ _ _⟩
  | 9, _, ek => exact (both_stop hr hn htab H hm h64 hl hu hv ek).mono fun e w' ⟨he, h⟩ => ⟨he, _, h, rfl⟩
end
end Go.Proofs.YtnideelidfpicaaGreatDoor
namespace Go.Proofs.YtnideelidfpicaaGreatDoor
open Go.RowKit Go.Maps
set_option linter.unusedVariables false
set_option linter.unusedSimpArgs false
set_option linter.unusedSectionVars false
section
variable {w0 w w' : World} {p : PP} {q : QQ} {lb m : Nat} {X : PS (List Int)}
theorem te_same (H : TE p q lb w0 w X m) : Calls Tryz.prog 11 #[.pointer (some ⟨p.db, 0, none⟩), .pointer (some ⟨q.rb, 0, none⟩)] w fun e w' => e = .returned (.bool true) ∧ Fr NoF w w' := by
  obtain ⟨F, G, h1, h2, _⟩ := H
  obtain ⟨FC, s, c, pv, fv, mb, fh, nf, d1, d2, _⟩ := h1.1.cdE
  obtain ⟨FQ, lv, nv, sv, e1, _⟩ := h2.qd
  exact same_yes d1 e1 d2
theorem te_holds (H : TE p q lb w0 w X m) : ∃ a n c, w.cell? ⟨q.rb, 1, none⟩ = some (.slice a n c) ∧ q.rb < w.heap.size ∧ Calls Tryz.prog 12 #[.pointer (some ⟨p.db, 0, none⟩), .slice a n c] w fun e w' => e = .returned (.bool true) ∧ Fr NoF w w' := by
  obtain ⟨F, G, h1, h2, _⟩ := H
  obtain ⟨FC, s, c, pv, fv, mb, fh, nf, d1, d2, _⟩ := h1.1.cdE
  obtain ⟨FQ, lv, nv, sv, e1, _⟩ := h2.qd
  have hH := holds_yes d1 e1.hl e1.b1 d2
  have c1 := e1.ce 1 (by omega)
  obtain ⟨a, cc, e, _, _⟩ := e1.hl.shape
  exact ⟨a, _, cc, by rw [c1]; show some lv = _; rw [e], e1.hd.lt, by rw [← e]; exact hH⟩
theorem te_sc (H : TE p q lb w0 w X m) : Calls Tryz.prog 10 #[p.ptr] w (fun e w' => e = .returned (.int .i64 X.sc) ∧ w = w') ∧ w.cell? ⟨q.pb, 3, none⟩ = some (.int .i64 X.sc) ∧ w.cell? ⟨q.pb, 0, none⟩ = some (.pointer (some ⟨q.rb, 0, none⟩)) ∧ q.pb < w.heap.size := by
  obtain ⟨F, G, h1, h2, _⟩ := H
  exact ⟨sc_calls h1, h2.ch.1, h2.c.1, h2.c.2.2.1⟩
/-- The six that are asked of a page. -/
theorem te_ask (hn : p.n = q.n) (H : TE p q lb w0 w X m) {id : Nat} (hu : id < 4294967296) :
    Calls Tryz.prog 13 #[p.ptr, .int .u32 id] w (fun e w' => e = .returned (.int .i64 (X.frame p.n id)) ∧ w = w') ∧
    Calls Tryz.prog 14 #[q.ptr, .int .u32 id] w (fun e w' => e = .returned (.int .i64 (X.frame p.n id)) ∧ w = w') ∧
    Calls Tryz.prog 15 #[p.ptr, .int .u32 id] w (fun e w' => e = .returned (.int .i64 (X.pins p.n id)) ∧ w = w') ∧
    Calls Tryz.prog 16 #[q.ptr, .int .u32 id] w (fun e w' => e = .returned (.int .i64 (X.pins p.n id)) ∧ w = w') ∧
    Calls Tryz.prog 17 #[p.ptr, .int .u32 id] w (fun e w' => e = .returned (.bool (X.D.has id)) ∧ w = w') ∧
    Calls Tryz.prog 18 #[.pointer (some ⟨q.rb, 0, none⟩), .int .u32 id] w (fun e w' => e = .returned (.bool (X.D.has id)) ∧ w = w') := by
  obtain ⟨F, G, h1, h2, _⟩ := H
  have hI : Inv q.n X.f X.D := by rw [← hn]; exact h1.2.1
  obtain ⟨av, hq⟩ := h2.qm
  refine ⟨fr_calls h1 hu, ?_, pi_calls h1 hu, ?_, hs_calls h1 hu, h2.hasC id⟩
  · have := qf_frameZ hq id
    rw [frZ_frame hI id] at this
    rw [hn]; exact this
  · rw [hn]; exact qf_pins hq hI id
end
end Go.Proofs.YtnideelidfpicaaGreatDoor
namespace Go.Proofs.YtnideelidfpicaaGreatDoor
open Go.RowKit Go.Maps
set_option linter.unusedVariables false
set_option linter.unusedSimpArgs false
set_option linter.unusedSectionVars false
set_option maxRecDepth 100000
section
variable {w w' : World}
theorem frQ_made {n b : Nat} (hb : b = w.heap.size) : Blk (w.alloc (.cells (madeCells #[.int .u32 0, .int .u64 0, .int .i64 0, .bool false] (n * 4)) 94)) b (n * 4) (frV fun _ => zF) := by
  refine Blk.new w _ _ _ _ _ hb (size_madeCells _ _) (fun i hi => ?_)
  rw [made_at hi]
  unfold frV
  have h4 : i % 4 = 0 ∨ i % 4 = 1 ∨ i % 4 = 2 ∨ i % 4 = 3 := by omega
  show some (#[Value.int .u32 0, .int .u64 0, .int .i64 0, .bool false][i % 4]!) = _
  rcases h4 with e | e | e | e <;> rw [e] <;> rfl
set_option maxHeartbeats 2000000 in
theorem rnew_calls (n rb : Nat) (w : World) (hn : 1 ≤ n ∧ n ≤ 65535) (a : Option Addr) (k c : Nat) : Calls Tryz.prog 8 #[.pointer (some ⟨rb, 0, none⟩), .int .i64 n, .slice a k c] w fun e w' => ∃ q : QQ, q.n = n ∧ q.rb = rb ∧ e = .returned q.ptr ∧ w.heap.size ≤ q.pb ∧ w.heap.size ≤ q.fb ∧ ¬ q.fb = q.pb ∧ Blk w' q.fb (n * 4) (frV fun _ => zF) ∧ Blk w' q.pb 4 (qH q (.slice a k c) 0) ∧ Fr NoF w w' := by
  obtain ⟨i0, hi0, hz0, hz1, hz2⟩ := info_parts' (P := Tryz.prog) (e := 94) (z := .agg #[.int .u32 0, .int .u64 0, .int .i64 0, .bool false]) (s := 4) (b := 32) (by kernel_rfl)
  have mk1 : ∀ (w : World), (Instr.makeSlice 47 (.int .i64 (n : Int)) (.int .i64 (n : Int))).run Tryz.prog w =
      .ok (.slice (some ⟨w.heap.size, 0, none⟩) n n) (w.alloc (.cells (madeCells #[.int .u32 0, .int .u64 0, .int .i64 0, .bool false] (n * 4)) 94)) := by
    intro w
    have := run_make (P := Tryz.prog) w 47 94 i0 _ Tryz.underlying47 hi0 hz0 .i64 .i64 (n : Int) (n : Int) (by omega) (Int.le_refl _) (by rw [hz2]; omega) (by omega)
    rw [show (n : Int).toNat = n from by omega, hz1] at this
    exact this
  have HNN := Lib.hid hn
  clear hi0 hz0 hz1 hz2 hn
  go_enter Tryz.func8, Tryz.ntmps8
  go_wp2
  go_returns
  refine ⟨⟨n, w.heap.size + 1, rb, w.heap.size⟩, rfl, rfl, by first | rfl | simp [QQ.ptr, alloc_size], by show _ ≤ w.heap.size + 1; omega, Nat.le_refl _, by show ¬ w.heap.size = w.heap.size + 1; omega, (frQ_made rfl).alloc _, Blk.new _ _ _ 4 _ _ (by first | rfl | simp [alloc_size]) rfl (fun i hi => ?_), ((Fr.refl NoF w).alloc _).alloc _⟩
  match i, hi with
  | 0, _ => rfl
  | 1, _ => rfl
  | 2, _ => rfl
  | 3, _ => rfl
end
section
variable {w0 w w' : World} {p : PP} {lb m n rb : Nat} {r : RS} {l : List Int} {F FD : Nat → Prop}
theorem p_inv (n : Nat) : Inv n (fun _ => zF) (rs0 12) := ⟨fun _ _ _ => rfl, fun i _ h => absurd rfl h, fun i j _ _ h => absurd rfl h, ⟨dk0 12, dr0 12⟩, fun x h => (by cases h), fun i _ => by show 0 < _; omega⟩
/-- The document's disk, as it is made. -/
theorem qd_first (n m : Nat) (w : World) (hn : n ≤ 65535) : QD w.heap.size (rs0 n) m (w.alloc (.cells #[.int .i64 n, .slice none 0 0, .slice none 0 0, .slice none 0 0, .int .i64 0, .int .i64 0, .bool false, .int .i64 0] 41)) (FR w.heap.size (.slice none 0 0) (.slice none 0 0) (.slice none 0 0)) := by
  refine ⟨_, _, _, ⟨⟨_, _, heap_alloc_new _ _ _ rfl, rfl, fun i hi => ?_⟩, SlC.nil _ 2, SlC.nil _ 2, SlC.nil _ 2, fun i q => (by cases q), fun i q => (by cases q), fun i q => (by cases q), by show (0 : Nat) < _; omega, by show (0 : Nat) < _; omega, by show (0 : Nat) < _; omega, ⟨by show (0 : Nat) < _; omega, by show (0 : Nat) < _; omega⟩, fun p q => (by cases q), fun p q => (by cases q), fun p q => (by cases q)⟩, ⟨Nat.zero_le _, Nat.zero_le _, Nat.zero_le _, Nat.zero_le _, by show -(m : Int) ≤ 0; omega⟩, by show isI63 0; unfold isI63; omega, hn, fun i => Iff.rfl⟩
  match i, hi with
  | 0, _ => rfl
  | 1, _ => rfl
  | 2, _ => rfl
  | 3, _ => rfl
  | 4, _ => rfl
  | 5, _ => rfl
  | 6, _ => rfl
  | 7, _ => rfl
theorem FR.nil_is {b i : Nat} (h : FR b (.slice none 0 0) (.slice none 0 0) (.slice none 0 0) i) : i = b := by
  rcases h with h | h | h | h
  · exact h
  · cases h
  · cases h
  · cases h
/-- The beginning: both are new. -/
theorem te_first (hr : p.rv = advV lb) (hpn : p.n = n) (hp : ∃ F, PA p lb ⟨fun _ => zF, r, l, 0⟩ m w F ∧ (∀ i, F i → w0.heap.size ≤ i) ∧ Fr NoF w0 w ∧ ∀ i, FD i → ¬ F i) (hq : QD rb r m w FD) (hF : ∀ i, FD i → w0.heap.size ≤ i) (hn : 1 ≤ n ∧ n ≤ 65535) {a : Option Addr} {c : Nat} (hs : SlZ w (.slice a l.length c) l) (hz : ∀ b, (Value.slice a l.length c).ownBlock = some b → b < w0.heap.size)
    {q : QQ} (q1 : q.n = n) (q2 : q.rb = rb) (q3 : w.heap.size ≤ q.pb) (q4 : w.heap.size ≤ q.fb) (q5 : ¬ q.fb = q.pb) (q6 : Blk w' q.fb (n * 4) (frV fun _ => zF)) (q7 : Blk w' q.pb 4 (qH q (.slice a l.length c) 0)) (g : Fr NoF w w') : TE p q lb w0 w' ⟨fun _ => zF, r, l, 0⟩ m := by
  obtain ⟨F, h1, h2, h3, hd⟩ := hp
  have hlt := PA.lt hr h1
  have hs0 := h3.size
  have hsz := g.size
  subst q1
  subst q2
  refine ⟨F, fun i => i = q.pb ∨ i = q.fb ∨ FD i, PW.fr0 (pa_sys hr) h1 g, ⟨FD, _, ⟨q7, q6, SlC.fr hs g (fun _ _ k => k), q5, fun b e => ?_, hn, ⟨Nat.zero_le _, fun i => ⟨by show 0 < _; omega, by show 0 < _; omega, Nat.zero_le _⟩⟩⟩, hq.fr0 g, ⟨fun k => by have := hq.lt _ k; omega, fun k => by have := hq.lt _ k; omega⟩, hz, fun i => Iff.rfl, fun i k => ?_, by omega⟩, fun i k => ⟨?_, h2 i k⟩, h3.trans g (fun _ k => k.elim)⟩
  · have := hz b e
    exact ⟨by omega, by omega⟩
  · rcases k with k | k | k
    · omega
    · omega
    · exact hF i k
  · have hi := hlt i k
    rintro (e | e | e)
    · omega
    · omega
    · exact hd i e k
end
end Go.Proofs.YtnideelidfpicaaGreatDoor
namespace Go.Proofs.YtnideelidfpicaaGreatDoor
open Go.ChangeShapes Go.WideShapes Go.ChangeAt Go.RowKit
set_option linter.unusedVariables false

/-- The table's numbers. -/
def tabZ : List Int := Lib.deBruijn64tab.map fun (n : Nat) => (n : Int)
theorem tabG : Tryz.prog.globalNamed "math/bits.deBruijn64tab" = some 0 := by kernel_rfl
theorem tabT_of {W : World} (h : laidMet Tryz.prog [("math/bits.deBruijn64tab", Lib.tabData .u8 tabZ)] W) : TabT W := by
  have h1 := Lib.tabIs_of_head (t := 143) (e := 5) (n := 64) tabG (by kernel_rfl) Tryz.underlying143 Tryz.underlying5 (by kernel_rfl) (by kernel_rfl) h
  refine ⟨fun j hj => ?_⟩
  have h2 := h1.cell tabG j (by simpa [tabZ] using hj)
  rw [h2]
  congr 2
  unfold tabZ
  rw [List.getD_eq_getElem?_getD, List.getElem?_map, List.getD_eq_getElem?_getD]
  have : j < Lib.deBruijn64tab.length := hj
  simp [List.getElem?_eq_getElem this]
/-- A world that meets the condition: the settled one, the table laid. -/
noncomputable def tabWorld (os : Os) : World :=
  let w0 := World.holding Tryz.prog os ⟨#[], #[], []⟩
  { w0 with heap := w0.heap.modify 0 fun
      | .cells _ t frozen => .cells (tabZ.map fun z => Value.int .u8 z).toArray t frozen
      | o => o }
theorem tab_met (os : Os) (args : Array Value) : laidMet Tryz.prog [("math/bits.deBruijn64tab", Lib.tabData .u8 tabZ)] ((tabWorld os).forCall (fun _ _ => 0) ⟨#[], args, []⟩).memory :=
  laidMet_of_run' 8 (by kernel_rfl) (by kernel_rfl)
theorem ownM : ownKnob Tryz.prog.godebug = none := by kernel_rfl
theorem laidOutM : laidOutB Tryz.prog = true := by kernel_rfl
end Go.Proofs.YtnideelidfpicaaGreatDoor

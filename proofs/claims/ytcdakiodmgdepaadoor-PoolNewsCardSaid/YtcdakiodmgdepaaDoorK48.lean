/-
  PoolNews: of all numbers it is told whether there may be a Pool; of one that isn't there nothing is told: the row, and its card. No condition of its own; the library's table of trailing zeros (math/bits.deBruijn64tab) is as its initialiser lays it: the card ties it to the program's text.
  What the rows of layer 9 have in common: the library's table, from the row's condition; a world that meets it.
  PoolNews: of all numbers it is told whether there may be a Pool; of one that isn't there nothing is told. No condition of its own; the library's table of trailing zeros (math/bits.deBruijn64tab) is as its initialiser lays it: the card ties it to the program's text. (genPoNews.py)
  pool: told, what the law is told first.
  pool: a new one, whole; what the law is told first.
-/
import Derived.Test.YtcdakiodmgdepaaDoorK47
import Derived.ProofKit
import Derived.Test.YtcdakiodmgdepaaDoorK10
import Derived.Test.YtcdakiodmgdepaaDoorTie
import Derived.OpenShut
import Derived.ChangeOld
import Derived.Below
import Derived.LaidLaws
import Derived.Handed
import Derived.Lib.LaidTab
import Derived.SevenTiedAt
import Derived.Test.YtcdakiodmgdepaaDoorCards
namespace Go.Proofs.YtcdakiodmgdepaaDoor
open Go.RowKit Go.Maps
set_option linter.unusedVariables false
set_option linter.unusedSimpArgs false
set_option linter.unusedSectionVars false
set_option maxRecDepth 100000
theorem emB_zero (n : Nat) : emB n (fun _ => zF) = belowB n := by funext i; unfold emB belowB; simp [zF]
theorem idB_zero (n : Nat) : idB n (fun _ => zF) = noneB := by funext i; unfold idB noneB; simp [zF]
theorem plO_zero (n : Nat) (r : RS) (h0 : r.has 0 = false) : plO n (fun _ => zF) r = fun id => if id ∈ r.L.map (·.1) then some (-1) else none := by
  funext id
  unfold plO
  by_cases h : r.has id = true
  · rw [if_pos h, if_pos (show id ∈ r.L.map (·.1) from (r.has_iff id).1 h), frm_eq_none (fun i hi q => by rw [← q] at h; rw [show (zF.id) = 0 from rfl, h0] at h; cases h)]
    rfl
  · rw [if_neg h, if_neg (show ¬ id ∈ r.L.map (·.1) from fun q => h ((r.has_iff id).2 q))]
theorem pnew_pw {τ : Type} {RR : World → τ → (Nat → Prop) → Prop} {ok : Nat → τ → (Nat → Nat) → (Nat → Bool) → Prop} {a : τ} {n db m0 : Nat} {r : RS} {rv iv0 : Value} {it : TypeId} {w : World} {FD FA : Nat → Prop} (hcd : CD db r m0 w FD) (hm0 : m0 ≤ 1000) (hrr : RR w a FA) (hfr : ∀ {w w' : World}, RR w a FA → Fr NoF w w' → RR w' a FA) (hlt : ∀ i, FA i → i < w.heap.size)
    (hs : ∀ i, FD i → ¬ FA i) (ht : TabT w) (ht1 : ¬ FD 0 ∧ ¬ FA 0) (hrv : rv = .iface it iv0) (hn : 1 ≤ n ∧ n ≤ 65535) (hL : r.L.length ≤ 1000) (hI : Inv n (fun _ => zF) r) (hok : ok 1000 a (fun _ => 0) (fun _ => true)) :
    Calls Tryd.prog 5 #[.pointer (some ⟨db, 0, none⟩), .int .i64 n, rv] w fun e w' => ∃ p : PP, p.n = n ∧ p.db = db ∧ p.rv = rv ∧ e = .returned (.tuple #[p.ptr, .int .i64 0]) ∧ (∃ F, PW RR ok p ⟨fun _ => zF, r, a, 0⟩ 1000 w' F ∧ (∀ i, F i → FD i ∨ FA i ∨ w.heap.size ≤ i)) ∧ Fr NoF w w' := by
  have hroom := hcd.room
  have hh0 : r.has 0 = false := by
    cases e : r.has 0 with
    | false => rfl
    | true => have := hI.pos e; omega
  refine (pnew_made n db hrv w hn ht (ids := r.L.map (·.1)) (by rw [List.length_map]; exact hL) (fun x hx => by
    obtain ⟨y, hy, rfl⟩ := List.mem_map.1 hx
    have := hcd.ids y hy
    omega) (fun W hW => cd_pages (hcd.fr0 hW))).mono ?_
  rintro e w' ⟨p, h1, h2, h3, he, hmp, hown, hf⟩
  refine ⟨p, h1, h2, h3, he, ⟨fun i => p.own i ∨ FD i ∨ FA i, ⟨⟨FD, FA, ⟨?_, by rw [h2]; exact (hcd.fr0 hf).more hm0, hfr hrr hf, fun i q => ⟨fun k => ?_, fun k => ?_⟩, hs, ht1⟩, fun i => Iff.rfl⟩, by rw [h1]; exact hI, hok⟩, fun i q => ?_⟩, hf⟩
  · show MP w' p (fun _ => zF) (plO p.n (fun _ => zF) r) (emB p.n (fun _ => zF)) (idB p.n (fun _ => zF)) 0 1000
    rw [emB_zero, idB_zero, plO_zero p.n r hh0, h1]
    exact hmp
  · have := hown i q; have := hcd.lt i k; omega
  · have := hown i q; have := hlt i k; omega
  · rcases q with q | q | q
    · exact .inr (.inr (hown i q))
    · exact .inl q
    · exact .inr (.inl q)
/-! The first pages, reckoned. -/
def tX0 : PS (List Int) := ⟨fun _ => zF, ⟨9, [], [], [], 0, 0, false, 0⟩, [], 0⟩
def tX1 : PS (List Int) := ⟨upd (fun _ => zF) 0 ⟨1, 0, 1, false⟩, ⟨9, [(1, 0)], [], [], 0, 0, false, 0⟩, [], 0⟩
def tX2 : PS (List Int) := ⟨upd (upd (fun _ => zF) 0 ⟨1, 0, 1, false⟩) 0 ⟨1, 0, 0, false⟩, ⟨9, [(1, 0)], [], [], 0, 0, false, 0⟩, [], 0⟩
def tX3 : PS (List Int) := ⟨upd (upd (upd (upd (fun _ => zF) 0 ⟨1, 0, 1, false⟩) 0 ⟨1, 0, 0, false⟩) 0 zF) 0 ⟨2, 0, 1, false⟩, ⟨9, [(1, 0), (2, 0)], [], [], 0, 0, false, 0⟩, [], 1⟩
theorem gap_0 : gapOf [] = 0 := Gap.same (gapOf_is []) ⟨Nat.le_refl _, fun j hj _ => absurd hj (Nat.not_lt_zero j), fun hk => absurd hk (Nat.lt_irrefl 0)⟩
theorem gap_1 : gapOf [(1, 0)] = 1 := Gap.same (gapOf_is [(1, 0)]) ⟨Nat.le_refl _, fun j hj h => by
  have e : j = 0 := by omega
  subst e; rfl, fun hk => absurd hk (Nat.lt_irrefl 1)⟩
theorem t_np0 : tX0.newPage advP 1 = ((1, 0), tX1) := by
  unfold PS.newPage
  rw [show tX0.D.L = [] from rfl, gap_0]
  rfl
theorem t_np1 : tX1.newPage advP 1 = ((0, 6), tX1) := by
  unfold PS.newPage
  rw [show tX1.all 1 = true from rfl]
  rfl
theorem t_un1 : tX1.unpin advP 1 1 = (0, tX2) := rfl
theorem t_np2 : tX2.newPage advP 1 = ((2, 0), tX3) := by
  unfold PS.newPage
  rw [show tX2.D.L = [(1, 0)] from rfl, gap_1]
  rfl
theorem t_fe3 : tX3.fetch advP 1 1 = (6, tX3) := rfl
theorem t_fr2 : tX3.frame 1 2 = 0 := rfl
theorem t_fr1 : tX3.frame 1 1 = -1 := rfl
theorem t_hs1 : tX3.D.has 1 = true := rfl
theorem t_inv : Inv 1 (fun _ => zF) tX0.D := by
  refine ⟨fun i hi h => rfl, fun i hi h => absurd rfl h, fun i j hi hj h => absurd rfl h, ⟨dk0 9, ?_⟩, fun x hx => (by cases hx), fun i hi => by decide⟩
  exact ⟨rfl, rfl, rfl, rfl, rfl, fun q => (by cases q), fun id _ _ => rfl, fun id _ _ => rfl, by show 0 ≤ 9; omega⟩
end Go.Proofs.YtcdakiodmgdepaaDoor
namespace Go.Proofs.YtcdakiodmgdepaaDoor
open Go.RowKit Go.Maps
set_option linter.unusedVariables false
set_option linter.unusedSimpArgs false
set_option linter.unusedSectionVars false
set_option maxRecDepth 100000
/-- All its blocks are newer than w0; nothing elder has changed. -/
def Mine (R : World → (Nat → Prop) → Prop) (w0 w : World) : Prop := ∃ F, R w F ∧ (∀ i, F i → w0.heap.size ≤ i) ∧ Fr NoF w0 w
theorem Mine.step {R R' : World → (Nat → Prop) → Prop} {w0 w w' : World} {F : Nat → Prop} (hF : ∀ i, F i → w0.heap.size ≤ i) (f : Fr NoF w0 w) (h : Led R' F w w') : Mine R' w0 w' := by
  obtain ⟨F', h1, h2, h3⟩ := h
  refine ⟨F', h1, fun i q => ?_, f.trans h2 (fun i q => .inr (hF i q))⟩
  rcases h3 i q with q | q
  · exact hF i q
  · have := f.size; omega
def okT : Nat → List Int → (Nat → Nat) → (Nat → Bool) → Prop := fun _ _ _ _ => True
/-- A pool with advice, of the call's own. -/
def PA (p : PP) (lb : Nat) (X : PS (List Int)) (m : Nat) : World → (Nat → Prop) → Prop := fun w F => PW (AR lb) okT p X m w F
section
variable {w0 w w' : World} {p : PP} {lb m : Nat} {X Y : PS (List Int)}
theorem pa_sys (hr : p.rv = advV lb) : RepSys advP (AR lb) p.pb p.rv p.n okT := by rw [hr]; exact adv_sys p.pb lb p.n
theorem pa_np (hr : p.rv = advV lb) (hm : m < 60000) {a : Nat × Nat} (h : Mine (PA p lb X m) w0 w) (he : X.newPage advP p.n = (a, Y)) : Calls Tryd.prog 7 #[p.ptr] w fun e w' => e = .returned (.tuple #[.int .u32 a.1, .int .i64 a.2]) ∧ Mine (PA p lb Y (m + 10)) w0 w' := by
  obtain ⟨F, h1, h2, h3⟩ := h
  have := np_calls (pa_sys hr) h1 hm
  rw [he] at this
  exact this.mono fun e w' ⟨q1, q2⟩ => ⟨q1, Mine.step (R := PA p lb X m) h2 h3 q2⟩
theorem pa_un (hr : p.rv = advV lb) (hm : m < 60000) {id a : Nat} (hu : id < 4294967296) (h : Mine (PA p lb X m) w0 w) (he : X.unpin advP p.n id = (a, Y)) : Calls Tryd.prog 11 #[p.ptr, .int .u32 id] w fun e w' => e = .returned (.int .i64 a) ∧ Mine (PA p lb Y (m + 10)) w0 w' := by
  obtain ⟨F, h1, h2, h3⟩ := h
  have := un_calls (pa_sys hr) h1 hm hu
  rw [he] at this
  exact this.mono fun e w' ⟨q1, q2⟩ => ⟨q1, Mine.step (R := PA p lb X m) h2 h3 q2⟩
theorem pa_fe (hr : p.rv = advV lb) (hm : m < 60000) {id a : Nat} (hu : id < 4294967296) (h : Mine (PA p lb X m) w0 w) (he : X.fetch advP p.n id = (a, Y)) : Calls Tryd.prog 10 #[p.ptr, .int .u32 id] w fun e w' => e = .returned (.int .i64 a) ∧ Mine (PA p lb Y (m + 10)) w0 w' := by
  obtain ⟨F, h1, h2, h3⟩ := h
  have := fe_calls (pa_sys hr) h1 hm hu
  rw [he] at this
  exact this.mono fun e w' ⟨q1, q2⟩ => ⟨q1, Mine.step (R := PA p lb X m) h2 h3 q2⟩
theorem pa_sc (h : Mine (PA p lb X m) w0 w) : Calls Tryd.prog 19 #[p.ptr] w fun e w' => e = .returned (.int .i64 X.sc) ∧ w = w' := by
  obtain ⟨F, h1, h2, h3⟩ := h
  exact sc_calls h1
theorem pa_fr (h : Mine (PA p lb X m) w0 w) {id : Nat} (hu : id < 4294967296) : Calls Tryd.prog 18 #[p.ptr, .int .u32 id] w fun e w' => e = .returned (.int .i64 (X.frame p.n id)) ∧ w = w' := by
  obtain ⟨F, h1, h2, h3⟩ := h
  exact fr_calls h1 hu
theorem pa_hs (h : Mine (PA p lb X m) w0 w) {id : Nat} (hu : id < 4294967296) : Calls Tryd.prog 16 #[p.ptr, .int .u32 id] w fun e w' => e = .returned (.bool (X.D.has id)) ∧ w = w' := by
  obtain ⟨F, h1, h2, h3⟩ := h
  exact hs_calls h1 hu
/-- A new one, of advice and a disk of the call's own. -/
theorem pa_new {db n m0 : Nat} {r : RS} {l : List Int} {FD FA : Nat → Prop} (hcd : CD db r m0 w FD) (hm0 : m0 ≤ 1000) (har : AR lb w l FA) (hs : ∀ i, FD i → ¬ FA i) (ht : TabT w) (ht1 : ¬ FD 0 ∧ ¬ FA 0) (hn : 1 ≤ n ∧ n ≤ 65535) (hL : r.L.length ≤ 1000) (hI : Inv n (fun _ => zF) r) (hF : ∀ i, FD i ∨ FA i → w0.heap.size ≤ i) (hf : Fr NoF w0 w) :
    Calls Tryd.prog 5 #[.pointer (some ⟨db, 0, none⟩), .int .i64 n, advV lb] w fun e w' => ∃ p : PP, p.n = n ∧ p.db = db ∧ p.rv = advV lb ∧ e = .returned (.tuple #[p.ptr, .int .i64 0]) ∧ Mine (PA p lb ⟨fun _ => zF, r, l, 0⟩ 1000) w0 w' := by
  refine (pnew_pw (RR := AR lb) (ok := okT) hcd hm0 har (fun h f => h.fr f (fun _ _ q => q)) har.lt hs ht ht1 rfl hn hL hI trivial).mono ?_
  rintro e w' ⟨p, h1, h2, h3, he, ⟨F, h4, h5⟩, f⟩
  refine ⟨p, h1, h2, h3, he, F, h4, fun i q => ?_, hf.trans f (fun _ q => q.elim)⟩
  rcases h5 i q with q | q | q
  · exact hF i (.inl q)
  · exact hF i (.inr q)
  · have := hf.size; omega
set_option maxHeartbeats 4000000 in
theorem toldP_calls (hT : TabT w) : Calls Tryd.prog 9 #[] w fun e w' => e = .returned (.bool true) ∧ Fr NoF w w' := by
  have HT := Lib.hid hT
  have htl := hT.lt
  clear hT
  go_enter Tryd.func9, Tryd.ntmps9
  go_wp2_with fail
  refine (cd_new 9 _ (by omega) (by omega)).mono ?_
  rintro e w1 ⟨db, FD, rfl, d1, d2, d3⟩
  have D1 := Lib.hid d1
  have D2 := Lib.hid d2
  have D3 := Lib.hid d3
  clear d1 d2 d3
  go_wp2_with fail
  refine (advise_calls (v := .slice none 0 0) (l := []) (SlC.nil _ _) (by show 0 ≤ 65535; omega)).mono ?_
  rintro e w2 ⟨lb, FA, rfl, a1, a2, a3⟩
  have HN := Lib.hid (pa_new (w0 := w) (n := 1) (D1.out.fr0 a3) (by omega) a1 (fun i q k => by have := D1.out.lt i q; have := a2 i k; omega) ((HT.out.fr0 D3.out).fr0 a3) ⟨fun q => by have := D2.out _ q; omega, fun q => by have := a2 _ q; have := D3.out.size; omega⟩ ⟨by omega, by omega⟩ (by show 0 ≤ 1000; omega) t_inv (fun i q => q.elim (fun q => D2.out i q) (fun q => by have := a2 i q; have := D3.out.size; omega)) (D3.out.trans a3 (fun _ q => q.elim)))
  clear a1 a2 a3 D1 D2 D3 htl HT
  go_wp2_with fail
  refine HN.out.mono ?_
  clear HN
  rintro e w3 ⟨p, hpn, hpd, hpr, rfl, h3⟩
  have HR := Lib.hid hpr
  have HP := Lib.hid hpn
  have KN := fun a X Y m (q : m < 60000) w4 (h : Mine (PA p lb X m) w w4) he => pa_np (a := a) (Y := Y) hpr q h he
  have H3 := Lib.hid h3
  have HQ : Hid (p.ptr = .pointer (some ⟨p.pb, 0, none⟩)) := rfl
  clear hpn hpd hpr h3 KN
  unfold PP.ptr
  go_wp2_with fail
  refine (pa_np (a := (1, 0)) (Y := tX1) HR.out (by omega) H3.out (by rw [HP.out]; exact t_np0)).mono ?_
  rintro e w4 ⟨rfl, h4⟩
  have H4 := Lib.hid h4
  clear h4 H3
  go_wp2_with fail
  refine (pa_np (a := (0, 6)) (Y := tX1) HR.out (by omega) H4.out (by rw [HP.out]; exact t_np1)).mono ?_
  rintro e w5 ⟨rfl, h5⟩
  have H5 := Lib.hid h5
  clear h5 H4
  go_wp2_with fail
  refine (pa_un (id := 1) (a := 0) (Y := tX2) HR.out (by omega) (by omega) H5.out (by rw [HP.out]; exact t_un1)).mono ?_
  rintro e w6 ⟨rfl, h6⟩
  have H6 := Lib.hid h6
  clear h6 H5
  go_wp2_with fail
  refine (pa_np (a := (2, 0)) (Y := tX3) HR.out (by omega) H6.out (by rw [HP.out]; exact t_np2)).mono ?_
  rintro e w7 ⟨rfl, h7⟩
  have H7 := Lib.hid h7
  clear h7 H6
  go_wp2_with fail
  refine (pa_fe (id := 1) (a := 6) (Y := tX3) HR.out (by omega) (by omega) H7.out (by rw [HP.out]; exact t_fe3)).mono ?_
  rintro e w8 ⟨rfl, h8⟩
  have H8 := Lib.hid h8
  clear h8 H7
  go_wp2_with fail
  refine (pa_sc H8.out).mono ?_
  rintro e w9 ⟨rfl, rfl⟩
  rw [show tX3.sc = 1 from rfl]
  go_wp2_with fail
  refine (pa_fr H8.out (id := 2) (by omega)).mono ?_
  rintro e w9 ⟨rfl, rfl⟩
  rw [HP.out, t_fr2]
  go_wp2_with fail
  refine (pa_fr H8.out (id := 1) (by omega)).mono ?_
  rintro e w9 ⟨rfl, rfl⟩
  rw [HP.out, t_fr1]
  go_wp2_with fail
  refine (pa_hs H8.out (id := 1) (by omega)).mono ?_
  rintro e w9 ⟨rfl, rfl⟩
  rw [t_hs1]
  go_wp2
  go_returns
  obtain ⟨F, _, _, hf⟩ := H8.out
  exact ⟨rfl, hf⟩
end
end Go.Proofs.YtcdakiodmgdepaaDoor
namespace Go.Proofs.YtcdakiodmgdepaaDoor
open Go.RowKit Go.Maps
set_option linter.unusedVariables false
set_option linter.unusedSimpArgs false
set_option linter.unusedSectionVars false
set_option maxRecDepth 100000
namespace poolNews
theorem n_inv {n : Nat} : Inv n (fun _ => zF) (⟨3, [], [], [], 0, 0, false, 0⟩ : RS) := by
  refine ⟨fun i hi h => rfl, fun i hi h => absurd rfl h, fun i j hi hj h => absurd rfl h, ⟨dk0 3, ?_⟩, fun x hx => (by cases hx), fun i hi => by decide⟩
  exact ⟨rfl, rfl, rfl, rfl, rfl, fun q => (by cases q), fun id _ _ => rfl, fun id _ _ => rfl, by show 0 ≤ 3; omega⟩
theorem one_sl (w : World) (t : TypeId) : SlZ (w.alloc (.cells #[.int .i64 1] t)) (.slice (some ⟨w.heap.size, 0, none⟩) 1 1) [1] := by
  have := own_new (w0 := w) (w := w) (Nat.le_refl _) #[.int .i64 1] t 1 1 _ rfl rfl (by unfold maxLen; omega)
  exact SlC.ofOwn this (fun u hu => by simp at hu; rw [hu]; rfl)
set_option maxHeartbeats 4000000 in
theorem news_nil_ok (n : Nat) (w : World) (hT : TabT w) (h1 : 1 ≤ n) (h2 : n ≤ 65535) : Calls Tryd.prog 3 #[.int .i64 n, .bool true] w fun e w' => e = .returned (.bool true) ∧ Fr NoF w w' := by
  have HT := Lib.hid hT
  have htl := hT.lt
  have g1 : decide (1 ≤ (n : Int)) = true := by simp; omega
  have g2 : decide ((n : Int) ≤ 65535) = true := by simp; omega
  clear hT
  go_enter Tryd.func3, Tryd.ntmps3
  go_wp2_with fail
  refine (cd_new 3 _ (by omega) (by omega)).mono ?_
  rintro e w1 ⟨db, FD, rfl, d1, d2, d3⟩
  have D1 := Lib.hid d1
  have D2 := Lib.hid d2
  have D3 := Lib.hid d3
  have hs1 := d3.size
  clear d1 d2 d3
  go_wp2_with fail
  refine (advise_calls (l := [1]) (one_sl w1 _) (by show 1 ≤ 65535; omega)).mono ?_
  rintro e w2 ⟨lb, FA, rfl, a1, a2, a3⟩
  have fa : Fr NoF w1 w2 := ((Fr.refl NoF w1).alloc _).trans a3 (fun _ q => q.elim)
  have a2' : ∀ i, FA i → w1.heap.size ≤ i := fun i q => by have := a2 i q; rw [alloc_size] at this; omega
  have HF := Lib.hid (D3.out.trans fa (fun _ q => q.elim))
  have HT3 := Lib.hid ((HT.out.fr0 D3.out).fr0 fa)
  clear a1 a2 a2' a3 fa D1 D2 D3 htl HT
  go_wp2_with fail
  refine (pnew_nil n lb).mono ?_
  rintro e w3 ⟨rfl, rfl⟩
  go_wp2_with fail
  refine (nil_NewPage).mono ?_
  rintro e wz ⟨rfl, rfl⟩
  go_wp2_with fail
  refine (nil_Read (id := 1)).mono ?_
  rintro e wz ⟨rfl, rfl⟩
  go_wp2_with fail
  refine (toldP_calls HT3.out).mono ?_
  rintro e w5 ⟨rfl, f5⟩
  have HF5 := Lib.hid (HF.out.trans f5 (fun _ q => q.elim))
  clear f5
  go_wp2_with fail
  refine (nil_Fetch (id := 1)).mono ?_
  rintro e wz ⟨rfl, rfl⟩
  go_wp2_with fail
  refine (nil_Unpin (id := 1)).mono ?_
  rintro e w6 ⟨rfl, f6⟩
  have HF6 := Lib.hid (HF5.out.trans f6 (fun _ q => q.elim))
  clear f6
  go_wp2_with fail
  refine (nil_Write (id := 1) (v := 1)).mono ?_
  rintro e wz ⟨rfl, rfl⟩
  go_wp2_with fail
  refine (nil_Flush (id := 1)).mono ?_
  rintro e wz ⟨rfl, rfl⟩
  go_wp2_with fail
  refine (nil_FlushAll).mono ?_
  rintro e wz ⟨rfl, rfl⟩
  go_wp2_with fail
  refine (nil_Delete (id := 1)).mono ?_
  rintro e wz ⟨rfl, rfl⟩
  go_wp2_with fail
  refine (nil_Has (id := 1)).mono ?_
  rintro e wz ⟨rfl, rfl⟩
  go_wp2_with fail
  refine (nil_Pins (id := 1)).mono ?_
  rintro e wz ⟨rfl, rfl⟩
  go_wp2_with fail
  refine (nil_Frame (id := 1)).mono ?_
  rintro e wz ⟨rfl, rfl⟩
  go_wp2_with fail
  refine (nil_Scans).mono ?_
  rintro e wz ⟨rfl, rfl⟩
  go_wp2
  go_returns
  exact ⟨rfl, HF6.out⟩
set_option maxHeartbeats 4000000 in
theorem news_nil_lo (n : Int) (w : World) (hT : TabT w) (h1 : ¬ 1 ≤ n) : Calls Tryd.prog 3 #[.int .i64 n, .bool true] w fun e w' => e = .returned (.bool true) ∧ Fr NoF w w' := by
  have HT := Lib.hid hT
  have htl := hT.lt
  have g1 : decide (1 ≤ n) = false := by simpa using h1
  clear hT
  go_enter Tryd.func3, Tryd.ntmps3
  go_wp2_with fail
  refine (cd_new 3 _ (by omega) (by omega)).mono ?_
  rintro e w1 ⟨db, FD, rfl, d1, d2, d3⟩
  have D1 := Lib.hid d1
  have D2 := Lib.hid d2
  have D3 := Lib.hid d3
  have hs1 := d3.size
  clear d1 d2 d3
  go_wp2_with fail
  refine (advise_calls (l := [1]) (one_sl w1 _) (by show 1 ≤ 65535; omega)).mono ?_
  rintro e w2 ⟨lb, FA, rfl, a1, a2, a3⟩
  have fa : Fr NoF w1 w2 := ((Fr.refl NoF w1).alloc _).trans a3 (fun _ q => q.elim)
  have a2' : ∀ i, FA i → w1.heap.size ≤ i := fun i q => by have := a2 i q; rw [alloc_size] at this; omega
  have HF := Lib.hid (D3.out.trans fa (fun _ q => q.elim))
  have HT3 := Lib.hid ((HT.out.fr0 D3.out).fr0 fa)
  clear a1 a2 a2' a3 fa D1 D2 D3 htl HT
  go_wp2_with fail
  refine (pnew_nil n lb).mono ?_
  rintro e w3 ⟨rfl, rfl⟩
  go_wp2_with fail
  refine (nil_NewPage).mono ?_
  rintro e wz ⟨rfl, rfl⟩
  go_wp2_with fail
  refine (nil_Read (id := 1)).mono ?_
  rintro e wz ⟨rfl, rfl⟩
  go_wp2_with fail
  refine (toldP_calls HT3.out).mono ?_
  rintro e w5 ⟨rfl, f5⟩
  have HF5 := Lib.hid (HF.out.trans f5 (fun _ q => q.elim))
  clear f5
  go_wp2_with fail
  refine (nil_Fetch (id := 1)).mono ?_
  rintro e wz ⟨rfl, rfl⟩
  go_wp2_with fail
  refine (nil_Unpin (id := 1)).mono ?_
  rintro e w6 ⟨rfl, f6⟩
  have HF6 := Lib.hid (HF5.out.trans f6 (fun _ q => q.elim))
  clear f6
  go_wp2_with fail
  refine (nil_Write (id := 1) (v := 1)).mono ?_
  rintro e wz ⟨rfl, rfl⟩
  go_wp2_with fail
  refine (nil_Flush (id := 1)).mono ?_
  rintro e wz ⟨rfl, rfl⟩
  go_wp2_with fail
  refine (nil_FlushAll).mono ?_
  rintro e wz ⟨rfl, rfl⟩
  go_wp2_with fail
  refine (nil_Delete (id := 1)).mono ?_
  rintro e wz ⟨rfl, rfl⟩
  go_wp2_with fail
  refine (nil_Has (id := 1)).mono ?_
  rintro e wz ⟨rfl, rfl⟩
  go_wp2_with fail
  refine (nil_Pins (id := 1)).mono ?_
  rintro e wz ⟨rfl, rfl⟩
  go_wp2_with fail
  refine (nil_Frame (id := 1)).mono ?_
  rintro e wz ⟨rfl, rfl⟩
  go_wp2_with fail
  refine (nil_Scans).mono ?_
  rintro e wz ⟨rfl, rfl⟩
  go_wp2
  go_returns
  exact ⟨rfl, HF6.out⟩
set_option maxHeartbeats 4000000 in
theorem news_nil_hi (n : Int) (w : World) (hT : TabT w) (h1 : 1 ≤ n) (h2 : ¬ n ≤ 65535) : Calls Tryd.prog 3 #[.int .i64 n, .bool true] w fun e w' => e = .returned (.bool true) ∧ Fr NoF w w' := by
  have HT := Lib.hid hT
  have htl := hT.lt
  have g1 : decide (1 ≤ n) = true := by simpa using h1
  have g2 : decide (n ≤ 65535) = false := by simpa using h2
  clear hT
  go_enter Tryd.func3, Tryd.ntmps3
  go_wp2_with fail
  refine (cd_new 3 _ (by omega) (by omega)).mono ?_
  rintro e w1 ⟨db, FD, rfl, d1, d2, d3⟩
  have D1 := Lib.hid d1
  have D2 := Lib.hid d2
  have D3 := Lib.hid d3
  have hs1 := d3.size
  clear d1 d2 d3
  go_wp2_with fail
  refine (advise_calls (l := [1]) (one_sl w1 _) (by show 1 ≤ 65535; omega)).mono ?_
  rintro e w2 ⟨lb, FA, rfl, a1, a2, a3⟩
  have fa : Fr NoF w1 w2 := ((Fr.refl NoF w1).alloc _).trans a3 (fun _ q => q.elim)
  have a2' : ∀ i, FA i → w1.heap.size ≤ i := fun i q => by have := a2 i q; rw [alloc_size] at this; omega
  have HF := Lib.hid (D3.out.trans fa (fun _ q => q.elim))
  have HT3 := Lib.hid ((HT.out.fr0 D3.out).fr0 fa)
  clear a1 a2 a2' a3 fa D1 D2 D3 htl HT
  go_wp2_with fail
  refine (pnew_nil n lb).mono ?_
  rintro e w3 ⟨rfl, rfl⟩
  go_wp2_with fail
  refine (nil_NewPage).mono ?_
  rintro e wz ⟨rfl, rfl⟩
  go_wp2_with fail
  refine (nil_Read (id := 1)).mono ?_
  rintro e wz ⟨rfl, rfl⟩
  go_wp2_with fail
  refine (toldP_calls HT3.out).mono ?_
  rintro e w5 ⟨rfl, f5⟩
  have HF5 := Lib.hid (HF.out.trans f5 (fun _ q => q.elim))
  clear f5
  go_wp2_with fail
  refine (nil_Fetch (id := 1)).mono ?_
  rintro e wz ⟨rfl, rfl⟩
  go_wp2_with fail
  refine (nil_Unpin (id := 1)).mono ?_
  rintro e w6 ⟨rfl, f6⟩
  have HF6 := Lib.hid (HF5.out.trans f6 (fun _ q => q.elim))
  clear f6
  go_wp2_with fail
  refine (nil_Write (id := 1) (v := 1)).mono ?_
  rintro e wz ⟨rfl, rfl⟩
  go_wp2_with fail
  refine (nil_Flush (id := 1)).mono ?_
  rintro e wz ⟨rfl, rfl⟩
  go_wp2_with fail
  refine (nil_FlushAll).mono ?_
  rintro e wz ⟨rfl, rfl⟩
  go_wp2_with fail
  refine (nil_Delete (id := 1)).mono ?_
  rintro e wz ⟨rfl, rfl⟩
  go_wp2_with fail
  refine (nil_Has (id := 1)).mono ?_
  rintro e wz ⟨rfl, rfl⟩
  go_wp2_with fail
  refine (nil_Pins (id := 1)).mono ?_
  rintro e wz ⟨rfl, rfl⟩
  go_wp2_with fail
  refine (nil_Frame (id := 1)).mono ?_
  rintro e wz ⟨rfl, rfl⟩
  go_wp2_with fail
  refine (nil_Scans).mono ?_
  rintro e wz ⟨rfl, rfl⟩
  go_wp2
  go_returns
  exact ⟨rfl, HF6.out⟩
set_option maxHeartbeats 4000000 in
theorem news_dk_ok (n : Nat) (w : World) (hT : TabT w) (h1 : 1 ≤ n) (h2 : n ≤ 65535) : Calls Tryd.prog 3 #[.int .i64 n, .bool false] w fun e w' => e = .returned (.bool true) ∧ Fr NoF w w' := by
  have HT := Lib.hid hT
  have htl := hT.lt
  have g1 : decide (1 ≤ (n : Int)) = true := by simp; omega
  have g2 : decide ((n : Int) ≤ 65535) = true := by simp; omega
  clear hT
  go_enter Tryd.func3, Tryd.ntmps3
  go_wp2_with fail
  refine (cd_new 3 _ (by omega) (by omega)).mono ?_
  rintro e w1 ⟨db, FD, rfl, d1, d2, d3⟩
  have D1 := Lib.hid d1
  have D2 := Lib.hid d2
  have D3 := Lib.hid d3
  have hs1 := d3.size
  clear d1 d2 d3
  go_wp2_with fail
  refine (advise_calls (l := [1]) (one_sl w1 _) (by show 1 ≤ 65535; omega)).mono ?_
  rintro e w2 ⟨lb, FA, rfl, a1, a2, a3⟩
  have fa : Fr NoF w1 w2 := ((Fr.refl NoF w1).alloc _).trans a3 (fun _ q => q.elim)
  have a2' : ∀ i, FA i → w1.heap.size ≤ i := fun i q => by have := a2 i q; rw [alloc_size] at this; omega
  have HN := Lib.hid (pa_new (w0 := w) (n := n) (D1.out.fr0 fa) (by omega) a1 (fun i q k => by have := D1.out.lt i q; have := a2' i k; omega) ((HT.out.fr0 D3.out).fr0 fa) ⟨fun q => by have := D2.out _ q; omega, fun q => by have := a2' _ q; omega⟩ ⟨h1, h2⟩ (by show 0 ≤ 1000; omega) n_inv (fun i q => q.elim (fun q => D2.out i q) (fun q => by have := a2' i q; omega)) (D3.out.trans fa (fun _ q => q.elim)))
  have HT2 := Lib.hid ((HT.out.fr0 D3.out).fr0 fa)
  clear a1 a2 a2' a3 fa D1 D2 D3 htl HT
  go_wp2_with fail
  refine HN.out.mono ?_
  clear HN
  rintro e w3 ⟨p, hpn, hpd, hpr, rfl, F, h3, h4, hf⟩
  have HF := Lib.hid hf
  have HT3 := Lib.hid h3.1.me.tab
  clear h3 h4 hf HT2 hpn hpd hpr
  unfold PP.ptr
  go_wp2_with fail
  refine (nil_NewPage).mono ?_
  rintro e wz ⟨rfl, rfl⟩
  go_wp2_with fail
  refine (nil_Read (id := 1)).mono ?_
  rintro e wz ⟨rfl, rfl⟩
  go_wp2_with fail
  refine (toldP_calls HT3.out).mono ?_
  rintro e w5 ⟨rfl, f5⟩
  have HF5 := Lib.hid (HF.out.trans f5 (fun _ q => q.elim))
  clear f5
  go_wp2_with fail
  refine (nil_Fetch (id := 1)).mono ?_
  rintro e wz ⟨rfl, rfl⟩
  go_wp2_with fail
  refine (nil_Unpin (id := 1)).mono ?_
  rintro e w6 ⟨rfl, f6⟩
  have HF6 := Lib.hid (HF5.out.trans f6 (fun _ q => q.elim))
  clear f6
  go_wp2_with fail
  refine (nil_Write (id := 1) (v := 1)).mono ?_
  rintro e wz ⟨rfl, rfl⟩
  go_wp2_with fail
  refine (nil_Flush (id := 1)).mono ?_
  rintro e wz ⟨rfl, rfl⟩
  go_wp2_with fail
  refine (nil_FlushAll).mono ?_
  rintro e wz ⟨rfl, rfl⟩
  go_wp2_with fail
  refine (nil_Delete (id := 1)).mono ?_
  rintro e wz ⟨rfl, rfl⟩
  go_wp2_with fail
  refine (nil_Has (id := 1)).mono ?_
  rintro e wz ⟨rfl, rfl⟩
  go_wp2_with fail
  refine (nil_Pins (id := 1)).mono ?_
  rintro e wz ⟨rfl, rfl⟩
  go_wp2_with fail
  refine (nil_Frame (id := 1)).mono ?_
  rintro e wz ⟨rfl, rfl⟩
  go_wp2_with fail
  refine (nil_Scans).mono ?_
  rintro e wz ⟨rfl, rfl⟩
  go_wp2
  go_returns
  exact ⟨rfl, HF6.out⟩
set_option maxHeartbeats 4000000 in
theorem news_dk_lo (n : Int) (w : World) (hT : TabT w) (h1 : ¬ 1 ≤ n) : Calls Tryd.prog 3 #[.int .i64 n, .bool false] w fun e w' => e = .returned (.bool true) ∧ Fr NoF w w' := by
  have HT := Lib.hid hT
  have htl := hT.lt
  have g1 : decide (1 ≤ n) = false := by simpa using h1
  clear hT
  go_enter Tryd.func3, Tryd.ntmps3
  go_wp2_with fail
  refine (cd_new 3 _ (by omega) (by omega)).mono ?_
  rintro e w1 ⟨db, FD, rfl, d1, d2, d3⟩
  have D1 := Lib.hid d1
  have D2 := Lib.hid d2
  have D3 := Lib.hid d3
  have hs1 := d3.size
  clear d1 d2 d3
  go_wp2_with fail
  refine (advise_calls (l := [1]) (one_sl w1 _) (by show 1 ≤ 65535; omega)).mono ?_
  rintro e w2 ⟨lb, FA, rfl, a1, a2, a3⟩
  have fa : Fr NoF w1 w2 := ((Fr.refl NoF w1).alloc _).trans a3 (fun _ q => q.elim)
  have a2' : ∀ i, FA i → w1.heap.size ≤ i := fun i q => by have := a2 i q; rw [alloc_size] at this; omega
  have HF := Lib.hid (D3.out.trans fa (fun _ q => q.elim))
  have HT3 := Lib.hid ((HT.out.fr0 D3.out).fr0 fa)
  clear a1 a2 a2' a3 fa D1 D2 D3 htl HT
  go_wp2_with fail
  refine (pnew_no n lb db (by omega)).mono ?_
  rintro e w3 ⟨rfl, rfl⟩
  go_wp2_with fail
  refine (nil_NewPage).mono ?_
  rintro e wz ⟨rfl, rfl⟩
  go_wp2_with fail
  refine (nil_Read (id := 1)).mono ?_
  rintro e wz ⟨rfl, rfl⟩
  go_wp2_with fail
  refine (toldP_calls HT3.out).mono ?_
  rintro e w5 ⟨rfl, f5⟩
  have HF5 := Lib.hid (HF.out.trans f5 (fun _ q => q.elim))
  clear f5
  go_wp2_with fail
  refine (nil_Fetch (id := 1)).mono ?_
  rintro e wz ⟨rfl, rfl⟩
  go_wp2_with fail
  refine (nil_Unpin (id := 1)).mono ?_
  rintro e w6 ⟨rfl, f6⟩
  have HF6 := Lib.hid (HF5.out.trans f6 (fun _ q => q.elim))
  clear f6
  go_wp2_with fail
  refine (nil_Write (id := 1) (v := 1)).mono ?_
  rintro e wz ⟨rfl, rfl⟩
  go_wp2_with fail
  refine (nil_Flush (id := 1)).mono ?_
  rintro e wz ⟨rfl, rfl⟩
  go_wp2_with fail
  refine (nil_FlushAll).mono ?_
  rintro e wz ⟨rfl, rfl⟩
  go_wp2_with fail
  refine (nil_Delete (id := 1)).mono ?_
  rintro e wz ⟨rfl, rfl⟩
  go_wp2_with fail
  refine (nil_Has (id := 1)).mono ?_
  rintro e wz ⟨rfl, rfl⟩
  go_wp2_with fail
  refine (nil_Pins (id := 1)).mono ?_
  rintro e wz ⟨rfl, rfl⟩
  go_wp2_with fail
  refine (nil_Frame (id := 1)).mono ?_
  rintro e wz ⟨rfl, rfl⟩
  go_wp2_with fail
  refine (nil_Scans).mono ?_
  rintro e wz ⟨rfl, rfl⟩
  go_wp2
  go_returns
  exact ⟨rfl, HF6.out⟩
set_option maxHeartbeats 4000000 in
theorem news_dk_hi (n : Int) (w : World) (hT : TabT w) (h1 : 1 ≤ n) (h2 : ¬ n ≤ 65535) : Calls Tryd.prog 3 #[.int .i64 n, .bool false] w fun e w' => e = .returned (.bool true) ∧ Fr NoF w w' := by
  have HT := Lib.hid hT
  have htl := hT.lt
  have g1 : decide (1 ≤ n) = true := by simpa using h1
  have g2 : decide (n ≤ 65535) = false := by simpa using h2
  clear hT
  go_enter Tryd.func3, Tryd.ntmps3
  go_wp2_with fail
  refine (cd_new 3 _ (by omega) (by omega)).mono ?_
  rintro e w1 ⟨db, FD, rfl, d1, d2, d3⟩
  have D1 := Lib.hid d1
  have D2 := Lib.hid d2
  have D3 := Lib.hid d3
  have hs1 := d3.size
  clear d1 d2 d3
  go_wp2_with fail
  refine (advise_calls (l := [1]) (one_sl w1 _) (by show 1 ≤ 65535; omega)).mono ?_
  rintro e w2 ⟨lb, FA, rfl, a1, a2, a3⟩
  have fa : Fr NoF w1 w2 := ((Fr.refl NoF w1).alloc _).trans a3 (fun _ q => q.elim)
  have a2' : ∀ i, FA i → w1.heap.size ≤ i := fun i q => by have := a2 i q; rw [alloc_size] at this; omega
  have HF := Lib.hid (D3.out.trans fa (fun _ q => q.elim))
  have HT3 := Lib.hid ((HT.out.fr0 D3.out).fr0 fa)
  clear a1 a2 a2' a3 fa D1 D2 D3 htl HT
  go_wp2_with fail
  refine (pnew_no n lb db (by omega)).mono ?_
  rintro e w3 ⟨rfl, rfl⟩
  go_wp2_with fail
  refine (nil_NewPage).mono ?_
  rintro e wz ⟨rfl, rfl⟩
  go_wp2_with fail
  refine (nil_Read (id := 1)).mono ?_
  rintro e wz ⟨rfl, rfl⟩
  go_wp2_with fail
  refine (toldP_calls HT3.out).mono ?_
  rintro e w5 ⟨rfl, f5⟩
  have HF5 := Lib.hid (HF.out.trans f5 (fun _ q => q.elim))
  clear f5
  go_wp2_with fail
  refine (nil_Fetch (id := 1)).mono ?_
  rintro e wz ⟨rfl, rfl⟩
  go_wp2_with fail
  refine (nil_Unpin (id := 1)).mono ?_
  rintro e w6 ⟨rfl, f6⟩
  have HF6 := Lib.hid (HF5.out.trans f6 (fun _ q => q.elim))
  clear f6
  go_wp2_with fail
  refine (nil_Write (id := 1) (v := 1)).mono ?_
  rintro e wz ⟨rfl, rfl⟩
  go_wp2_with fail
  refine (nil_Flush (id := 1)).mono ?_
  rintro e wz ⟨rfl, rfl⟩
  go_wp2_with fail
  refine (nil_FlushAll).mono ?_
  rintro e wz ⟨rfl, rfl⟩
  go_wp2_with fail
  refine (nil_Delete (id := 1)).mono ?_
  rintro e wz ⟨rfl, rfl⟩
  go_wp2_with fail
  refine (nil_Has (id := 1)).mono ?_
  rintro e wz ⟨rfl, rfl⟩
  go_wp2_with fail
  refine (nil_Pins (id := 1)).mono ?_
  rintro e wz ⟨rfl, rfl⟩
  go_wp2_with fail
  refine (nil_Frame (id := 1)).mono ?_
  rintro e wz ⟨rfl, rfl⟩
  go_wp2_with fail
  refine (nil_Scans).mono ?_
  rintro e wz ⟨rfl, rfl⟩
  go_wp2
  go_returns
  exact ⟨rfl, HF6.out⟩
theorem walk (n : Int) (b : Bool) (w : World) (hT : TabT w) : Calls Tryd.prog 3 #[.int .i64 n, .bool b] w fun e w' => e = .returned (.bool true) ∧ Fr NoF w w' := by
  by_cases h1 : 1 ≤ n
  · by_cases h2 : n ≤ 65535
    · obtain ⟨k, rfl⟩ := Int.eq_ofNat_of_zero_le (show 0 ≤ n by omega)
      cases b with
      | true => exact news_nil_ok k w hT (by omega) (by omega)
      | false => exact news_dk_ok k w hT (by omega) (by omega)
    · cases b with
      | true => exact news_nil_hi n w hT h1 h2
      | false => exact news_dk_hi n w hT h1 h2
  · cases b with
    | true => exact news_nil_lo n w hT h1
    | false => exact news_dk_lo n w hT h1
end poolNews
end Go.Proofs.YtcdakiodmgdepaaDoor
namespace Go.Proofs.YtcdakiodmgdepaaDoor
open Go.ChangeShapes Go.WideShapes Go.ChangeAt Go.RowKit
set_option linter.unusedVariables false

/-- The table's numbers. -/
def tabZ : List Int := Lib.deBruijn64tab.map fun (n : Nat) => (n : Int)
theorem tabG : Tryd.prog.globalNamed "math/bits.deBruijn64tab" = some 0 := by kernel_rfl
theorem tabT_of {W : World} (h : laidMet Tryd.prog [("math/bits.deBruijn64tab", Lib.tabData .u8 tabZ)] W) : TabT W := by
  have h1 := Lib.tabIs_of_head (t := 108) (e := 5) (n := 64) tabG (by kernel_rfl) Tryd.underlying108 Tryd.underlying5 (by kernel_rfl) (by kernel_rfl) h
  refine ⟨fun j hj => ?_⟩
  have h2 := h1.cell tabG j (by simpa [tabZ] using hj)
  rw [h2]
  congr 2
  unfold tabZ
  rw [List.getD_eq_getElem?_getD, List.getElem?_map, List.getD_eq_getElem?_getD]
  have : j < Lib.deBruijn64tab.length := hj
  simp [List.getElem?_eq_getElem this]
/-- A world that meets the condition: the settled one, the table laid. -/
noncomputable def tabWorld (os : Os) : World :=
  let w0 := World.holding Tryd.prog os ⟨#[], #[], []⟩
  { w0 with heap := w0.heap.modify 0 fun
      | .cells _ t frozen => .cells (tabZ.map fun z => Value.int .u8 z).toArray t frozen
      | o => o }
theorem tab_met (os : Os) (args : Array Value) : laidMet Tryd.prog [("math/bits.deBruijn64tab", Lib.tabData .u8 tabZ)] ((tabWorld os).forCall (fun _ _ => 0) ⟨#[], args, []⟩).memory :=
  laidMet_of_run' 8 (by kernel_rfl) (by kernel_rfl)
theorem ownM : ownKnob Tryd.prog.godebug = none := by kernel_rfl
theorem laidOutM : laidOutB Tryd.prog = true := by kernel_rfl
end Go.Proofs.YtcdakiodmgdepaaDoor
namespace Go.Proofs.YtcdakiodmgdepaaDoor
open Go.ChangeShapes Go.WideShapes Go.ChangeAt Go.RowKit
set_option linter.unusedVariables false

namespace poolNews
set_option maxRecDepth 100000 in
theorem lifted (os : Os) (started : os.Started) (H : Type) (enc : TypeId × Value → H) :
    ReturnsInHanded {} Tryd.checked os 3 .any (fun w args => (Rows.poolNewsSpec.pre enc Tryd.prog Tryd.f3 Rows.poolNewsRow.domain false w args ∧ laidMet Tryd.prog Rows.poolNewsRow.laid w) ∧ sizedMet enc Tryd.prog Tryd.f3 (OpenSpec.ofChange Rows.poolNewsSpec) false w args)
      (Rows.poolNewsSpec.post enc Tryd.prog Tryd.f3 false true false false) := by
  refine returnsInHanded_of_change_and (C := Tryd.checked) (X := fun w _ => laidMet Tryd.prog Rows.poolNewsRow.laid w) (fun _ _ _ hh h => h.of_heap hh) ownM started (by kernel_rfl) Tryd.func3
    (ChangeSpec.witness_at (enc := enc) (C := Tryd.checked) (os := os) (X := fun w _ => laidMet Tryd.prog Rows.poolNewsRow.laid w) false (tabWorld os) #[.int .i64 0, .bool false] 8 rfl (by kernel_rfl) (by kernel_rfl) (by kernel_rfl) (by kernel_rfl) (by kernel_rfl) (tab_met os _)) ?_
  intro W base args ds gs before hval0 hW _ _ hL _
  have hval : ∀ (j : Nat) t v, Tryd.f3.params[j]? = some t → args[j]? = some v → Value.okWide Tryd.prog W .any base t v := hval0
  have hW' := hW
  obtain ⟨p, q, hA0, hV, rfl, hfz, hnd⟩ := hW
  have hA : DataW.TrodAll enc Tryd.prog W 0 (fun _ => true) true Tryd.f3.params.toList args.toList ds p := hA0
  rw [Tryd.params3] at hA hval
  obtain ⟨v0, vs0, d0, ds0, p0, q0, hargs, rfl, rfl, h0, r0⟩ := trodAll_cons hA
  obtain ⟨v1, vs1, d1, ds1, p1, q1, rfl, rfl, rfl, h1, r1⟩ := trodAll_cons r0
  obtain ⟨rfl, rfl, rfl⟩ := trodAll_nil r1
  obtain rfl : args = #[v0, v1] := by cases args; simp_all
  obtain ⟨rfl, rfl⟩ := trodVars_none hV
  obtain ⟨a0, rfl, rfl, rfl, w0⟩ := open_int Tryd.underlying3 (hval 0 3 v0 rfl rfl) h0
  obtain ⟨a1, rfl, rfl, rfl⟩ := open_bool Tryd.underlying4 (hval 1 4 v1 rfl rfl) h1
  clear hA0 hval0
  have hT : TabT W := tabT_of hL
  simp only [List.append_nil] at hW'
  refine (walk a0 a1 W hT).mono fun e W' ⟨he, hf⟩ => ?_
  subst he
  exact ⟨_, rfl, _, _, _, [], [], [], hW', trodAll_cons_mk (shut_bool Tryd.underlying4 _) trodAll_mk0, trodAll_cons_mk (shut_int Tryd.underlying3 w0) (trodAll_cons_mk (shut_bool Tryd.underlying4 _) trodAll_mk0), rfl, hf.below.frame _, fun h => by cases h⟩

/-- The row. -/
theorem said : Rows.PoolNewsSaid :=
  OpenClaim.holds_of_wide 3 Tryd.f3 rfl rfl rfl rfl rfl rfl rfl ⟨rfl, rfl, rfl, rfl, rfl⟩ rfl rfl rfl rfl rfl (by kernel_rfl) Tryd.func3 (by kernel_rfl)
    (of_decide_eq_true (by kernel_rfl)) (by unfold Func.isWrapper; first | (rw [if_pos (by decide +kernel)]; kernel_rfl) | (rw [if_neg (by decide +kernel)]; exact ⟨rfl, rfl⟩))
    (fun os started H enc _ => lifted os started H enc)
/-- THE STATEMENT. -/
theorem proved : Rows.PoolNewsCardSaid :=
  Claim7.holds_tied_plain_at .later [] [.data] true (true, "1fce59ef4d791ac682d6f418affd6f57602e9f6d5eebff593bd796509ec1ef86") true
    said (fun _ h => by cases h) (by kernel_rfl) (fun _ h => by cases h) poolNews_row_tie rfl ⟨rfl, rfl⟩ (by kernel_rfl) rfl
    (fun f fn hf hfn => by
      obtain rfl : f = 3 := Option.some.inj ((show Tryd.prog.funcNamed "hatcheck/hatchecklaw09.PoolNews" = some 3 by kernel_rfl).symm.trans hf) |>.symm
      obtain rfl : fn = Tryd.f3 := (Option.some.inj (Tryd.func3.symm.trans hfn)).symm
      exact ⟨by kernel_rfl, fun j t ht => by
        rw [Tryd.params3] at ht
        have h3 : t = 3 ∨ t = 4 := by
          rcases j with _ | _ | j
          · left; simpa using ht.symm
          · right; simpa using ht.symm
          · simp at ht
        rcases h3 with rfl | rfl
        · exact (show Tryd.prog.wantsStandIn 3 = false by kernel_rfl)
        · exact (show Tryd.prog.wantsStandIn 4 = false by kernel_rfl)⟩)
    (by kernel_rfl)
#print axioms proved
end poolNews
end Go.Proofs.YtcdakiodmgdepaaDoor

/-
  Pro's own small calls: empty, drop, fail.
-/
import Derived.Test.YtoainbdkhhblbaaK27
namespace Go.Proofs.Ytoainbdkhhblbaa
open Go.RowKit Go.Maps
set_option linter.unusedVariables false
set_option linter.unusedSimpArgs false

def Raw.empty (r : Raw) (f x : Nat) : Raw := { r.setV x false with e := upd r.e x { r.e x with fr := -1 }, fm := upd r.fm f (-1) }
/-- An entry that is in no frame goes: the map's word of its page, where that is of it. -/
def Raw.cold (r : Raw) (x : Nat) : Raw := { r with hot := if (r.e x).hot = true then r.hot - 1 else r.hot }
def Raw.forget (r : Raw) (x : Nat) : Raw :=
  if (r.mp ((r.e x).pg : Nat)).getD 0 = x then { r with mp := updP r.mp (r.e x).pg none, mc := if (mpF r.mp ((r.e x).pg : Nat)).isSome then r.mc - 1 else r.mc } else r
def Raw.pdrop (r : Raw) (x : Nat) : Raw := ((r.cold x).forget x).drop x
section
variable {w w' : World} {b n : Nat} {A : AP} {r : Raw}
theorem setV_e (x : Nat) (u : Bool) : (r.setV x u).e = r.e ∧ (r.setV x u).fm = r.fm ∧ (r.setV x u).ids = r.ids ∧ (r.setV x u).h = r.h ∧ (r.setV x u).mp = r.mp := by unfold Raw.setV; split <;> exact ⟨rfl, rfl, rfl, rfl, rfl⟩
set_option maxHeartbeats 1000000 in
theorem pr_empty (h : PC w b n A r) {f : Nat} (hf : f < n) {x : Nat} (hx : r.fm f = x) (hx2 : x < 2 * n) (hz : r.v x = true → 1 ≤ r.size) (hz2 : r.size ≤ 70000) :
    Calls Try.prog 65 #[.pointer (some ⟨b, 0, none⟩), .int .i64 f] w fun e w' => e = .returned (.tuple #[]) ∧ PC w' b n A (r.empty f x) ∧ Fr (FPr A b) w w' := by
  have HS := Lib.hid (pr_set h hf hx hx2 false (fun _ => hz) hz2)
  obtain ⟨se, sf, _, _, _⟩ := setV_e (r := r) x false
  have h0 : (0 : Int) ≤ (f : Int) := by omega
  have h1 : (f : Int) < (n : Int) := by omega
  have g0 : (0 : Int) ≤ (x : Int) := by omega
  have g1 : (x : Int) < 2 * (n : Int) := by omega
  have HX : Hid ((r.setV x false).fm f = x) := by unfold Hid; rw [sf]; exact hx
  have HE : Hid (r.empty f x = { r.setV x false with e := upd (r.setV x false).e x { (r.setV x false).e x with fr := -1 }, fm := upd (r.setV x false).fm f (-1) }) := by unfold Hid Raw.empty; rw [se, sf]
  clear h hx hz se sf
  rw [HE.out]
  generalize r.setV x false = q at *
  go_enter Try.func65, Try.ntmps65
  go_wp2_with fail
  refine HS.out.mono ?_
  clear HS
  rintro e w1 ⟨rfl, h1', f1⟩
  have c1 : w1.cell? ⟨b, 1, none⟩ = some (.slice (some ⟨A.eb, 0, none⟩) (2 * n) (2 * n)) := h1'.c 1 (by omega)
  have c5 : w1.cell? ⟨b, 5, none⟩ = some (.slice (some ⟨A.fb, 0, none⟩) n n) := h1'.c 5 (by omega)
  have cf := h1'.cf hf
  rw [HX.out] at cf
  obtain ⟨_, x1, _, _, _, _⟩ := h1'.ce hx2
  have fe := fun i => h1'.en.frozen i
  have ff := fun i => h1'.fb.frozen i
  have lb := h1'.hd.lt
  have le := h1'.en.lt
  have lf := h1'.fb.lt
  obtain ⟨n1, n2, _, n4, _, _, _⟩ := h1'.lb.ne
  have n1' : ¬ b = A.eb := fun e => n1 e.symm
  have n4' : ¬ A.fb = A.eb := fun e => n4 e.symm
  have HK : Hid (PC ((w1.setCell ⟨A.eb, x * 6 + 1, none⟩ (.int .i64 (-1))).setCell ⟨A.fb, f, none⟩ (.int .i64 (-1))) b n A { q with e := upd q.e x { q.e x with fr := -1 }, fm := upd q.fm f (-1) } ∧ Fr (FPr A b) w ((w1.setCell ⟨A.eb, x * 6 + 1, none⟩ (.int .i64 (-1))).setCell ⟨A.fb, f, none⟩ (.int .i64 (-1)))) := by
    have a1 := h1'.setEn (r' := { q with e := upd q.e x { q.e x with fr := -1 } }) (en_fr q.e q.v x (-1)) rfl
    exact ⟨a1.setFm (i := f) (-1), (f1.setCell (p := ⟨A.eb, x * 6 + 1, none⟩) (.inl (.inr (.inl rfl))) _).setCell (p := ⟨A.fb, f, none⟩) (.inl (.inr (.inr (.inl rfl)))) _⟩
  clear h1' f1 HX
  go_wp2_with fail
  go_region_with (fail)
  all_goals go_wp2
  all_goals go_returns
  all_goals exact ⟨rfl, HK.out.1.fr0 (Fr.refl NoF _).drew, HK.out.2.drew⟩
theorem PC.setMp (h : PC w b n A r) {c : Nat} {m : Int → Option Nat} (hm : MpV Try.prog 34 .u32 (.int .i64 0) w' A.mb c (mpF m)) (f : Fr (fun i => i = A.mb) w w') : PC w' b n A { r with mp := m, mc := c } := by
  obtain ⟨n1, n2, n3, n4, n5, n6, n7⟩ := h.lb.ne
  exact ⟨h.hd.fr f (fun q => n3 q.symm), h.rr.fr f (fun i hi => (n7 i hi).2.2.2), h.en.fr f n5, h.fb.fr f n6, hm, h.lb, h.hn⟩
theorem wfU {x : Nat} (h : x < 4294967296) : (Lit.int .u32 (x : Int)).wf = true := WalkArith.wf_u32 ⟨by omega, by omega⟩
set_option maxRecDepth 100000 in
set_option maxHeartbeats 2000000 in
theorem pr_drop (h : PC w b n A r) {x : Nat} (hx : x ∈ r.ids) (hu : (r.e x).pg < 4294967296) (hh : (r.e x).hot = true → 1 ≤ r.hot) (hh2 : r.hot ≤ 70000) :
    Calls Try.prog 35 #[.pointer (some ⟨b, 0, none⟩), .int .i64 x] w fun e w' => e = .returned (.tuple #[]) ∧ PC w' b n A (r.pdrop x) ∧ Fr (FPr A b) w w' := by
  have hx2 : x < 2 * n := h.lists.2.2.1 x hx
  have c1 : w.cell? ⟨b, 1, none⟩ = some (.slice (some ⟨A.eb, 0, none⟩) (2 * n) (2 * n)) := h.c 1 (by omega)
  obtain ⟨x0, x1, x2, x3, x4, x5⟩ := h.ce hx2
  have g0 : (0 : Int) ≤ (x : Int) := by omega
  have g1 : (x : Int) < 2 * (n : Int) := by omega
  have hwf := Lib.hid (wfU hu)
  have lb := h.hd.lt
  have le := h.en.lt
  have H := Lib.hid h
  have HX := Lib.hid hx
  obtain ⟨lv, hlv⟩ : ∃ lv : Nat, (r.mp ((r.e x).pg : Nat)).getD 0 = lv := ⟨_, rfl⟩
  have HLV : Hid ((mpF r.mp ((r.e x).pg : Nat)).getD (.int .i64 0) = .int .i64 (lv : Nat)) := by
    unfold Hid mpF
    rw [← hlv]
    cases r.mp ((r.e x).pg : Nat) <;> rfl
  have HRD : Hid (∀ r1 : Raw, r1 = r.cold x → (lv = x → r.pdrop x = Raw.drop { r1 with mp := updP r1.mp (r.e x).pg none, mc := if (mpF r1.mp ((r.e x).pg : Nat)).isSome then r1.mc - 1 else r1.mc } x) ∧ (¬ lv = x → r.pdrop x = r1.drop x)) := by
    intro r1 e
    subst e
    refine ⟨fun e => ?_, fun e => ?_⟩
    · unfold Raw.pdrop Raw.forget
      have : ((r.cold x).mp (((r.cold x).e x).pg : Nat)).getD 0 = x := hlv.trans e
      rw [if_pos this]; rfl
    · unfold Raw.pdrop Raw.forget
      have : ¬ ((r.cold x).mp (((r.cold x).e x).pg : Nat)).getD 0 = x := by intro q; exact e (hlv.symm.trans q)
      rw [if_neg this]
  clear h hx hlv
  -- the rest, behind the first two steps
  generalize hhot : (r.e x).hot = hot0 at *
  have HHOT := Lib.hid hhot
  clear hhot
  generalize hpg : (r.e x).pg = pg at *
  have HPG := Lib.hid hpg
  clear hpg
  have HB : Hid (∀ u0 u1 u2 u3 u4 u5 : Value, Blk (w.alloc (.cells #[u0, u1, u2, u3, u4, u5] 79)) w.heap.size 6 (fun i => #[u0, u1, u2, u3, u4, u5].getD i undef)) := fun u0 u1 u2 u3 u4 u5 => Blk.new _ _ _ 6 _ _ rfl rfl (fun i hi => by
    match i, hi with
    | 0, _ => rfl
    | 1, _ => rfl
    | 2, _ => rfl
    | 3, _ => rfl
    | 4, _ => rfl
    | 5, _ => rfl)
  have TAIL : True := trivial
  cases hot0 <;> by_cases hlx : lv = x
  · have HC : Hid (r.cold x = r) := by unfold Hid Raw.cold; rw [HHOT.out]; rfl
    have HR := Lib.hid ((HRD.out _ HC.out.symm).1 hlx)
    clear HRD
    have hlx' : ((lv : Int) == (x : Int)) = true := by simp; omega
    go_enter Try.func35, Try.ntmps35
    go_upto_region 1 with fail
    have b3 := HB.out (.int .u32 (pg : Nat)) (.int .i64 (r.e x).fr) (.bool false) (.bool (r.e x).ref) (.bool (r.e x).test) (.bool (r.v x))
    have f3 : Fr (FPr A b) w (w.alloc (.cells #[.int .u32 (pg : Nat), .int .i64 (r.e x).fr, .bool false, .bool (r.e x).ref, .bool (r.e x).test, .bool (r.v x)] 79)) := (Fr.refl _ w).alloc _
    have h3 := H.out.fr0 ((Fr.refl NoF w).alloc (.cells #[.int .u32 (pg : Nat), .int .i64 (r.e x).fr, .bool false, .bool (r.e x).ref, .bool (r.e x).test, .bool (r.v x)] 79))
    clear HB c1 x0 x1 x2 x3 x4 x5 le
    generalize w.alloc (.cells #[.int .u32 (pg : Nat), .int .i64 (r.e x).fr, .bool false, .bool (r.e x).ref, .bool (r.e x).test, .bool (r.v x)] 79) = wA at *
    have ldA := b3.lt
    have lbA := h3.hd.lt
    have d2 := b3.cell (i := 2) (by omega)
    simp only [Array.getD, List.getElem_toArray, List.getElem_cons_zero, List.getElem_cons_succ] at d2
    have B4 := Lib.hid b3
    have H4 := Lib.hid h3
    have F4 := Lib.hid f3
    clear h3 b3 f3 hh
    go_upto_region 3 with fail
    have h3 := H4.out
    have b3 := B4.out
    have f3 := F4.out
    clear B4 H4 F4 d2 ldA lbA hh2
    generalize wA = w3 at *
    generalize hrr : r = r3 at h3
    have hri : r3.ids = r.ids ∧ r3.mp = r.mp := by rw [← hrr]; exact ⟨rfl, rfl⟩
    have HRR := Lib.hid hrr
    clear hrr
    have HLV3 : Hid ((mpF r3.mp (pg : Nat)).getD (.int .i64 0) = .int .i64 (lv : Nat)) := by unfold Hid; rw [hri.2]; exact HLV.out
    have HXI : Hid (x ∈ r3.ids) := by unfold Hid; rw [hri.1]; exact HX.out
    clear hri
    have hb3 : Blk w3 w.heap.size 6 _ := b3
    have c6 : w3.cell? ⟨b, 6, none⟩ = some (.map (some A.mb)) := h3.c 6 (by omega)
    have d0 := hb3.cell (i := 0) (by omega)
    simp only [Array.getD, List.getElem_toArray, List.getElem_cons_zero, List.getElem_cons_succ] at d0
    have ld := hb3.lt
    have lb3 := h3.hd.lt
    have H3 := Lib.hid h3
    have B3 := Lib.hid hb3
    have F3 := Lib.hid f3
    have HLK : ∀ d, (Instr.lookup 56 (.map (some A.mb)) (.int .u32 (pg : Nat)) false).run Try.prog (w3.drewN d) = .ok (.int .i64 (lv : Nat)) (w3.drewN d) := fun d => by
      have := (h3.fr0 ((Fr.refl NoF w3).drewN d)).mp.look_run MVg (x := (pg : Nat)) hwf.out
      rw [this, HLV3.out]
    clear h3 hb3 b3 f3
    go_quiet (fail)
    have g5 : Fr NoF w3 ((w3.drewN nq).drew) := ((Fr.refl NoF w3).drewN nq).drew
    have g5' : Fr NoF w3 (w3.drewN nq) := (Fr.refl NoF w3).drewN nq
    obtain ⟨w5, r5, m5, f5⟩ := (H3.out.fr0 g5).mp.del_run MVg (x := (pg : Nat)) hwf.out 0
    have hm5 := m5
    rw [show (none : Option Value) = (none : Option Nat).map fun (x : Nat) => Value.int .i64 x from rfl, mpF_upd] at hm5
    have h5 := (H3.out.fr0 g5).setMp hm5 f5
    have F5 : Hid (Fr (FPr A b) w w5) := (F3.out.trans g5 (fun _ q => q.elim)).trans f5 (fun i q => .inl (.inr (.inr (.inr (.inl q)))))
    have HDR := Lib.hid (ck_drop h5 (x := x) HXI.out)
    have d6 : (w3.drewN nq).cell? ⟨b, 6, none⟩ = some (.map (some A.mb)) := (H3.out.fr0 g5').c 6 (by omega)
    have d7 : (w3.drewN nq).cell? ⟨w.heap.size, 0, none⟩ = some (.int .u32 (pg : Nat)) := (B3.out.fr g5' id).cell (i := 0) (by omega)
    have l6 : b < (w3.drewN nq).heap.size := (H3.out.fr0 g5').hd.lt
    have l7 : w.heap.size < (w3.drewN nq).heap.size := (B3.out.fr g5' id).lt
    clear HLK h5 m5 hm5 f5 g5 g5' c6 d0 ld lb3
    generalize w3.drewN nq = wz at *
    go_wp2_with fail
    go_region_with (fail)
    all_goals
      go_wp2_with fail
      refine HDR.out.mono ?_
      clear HDR
      rintro e w6 ⟨rfl, h6, f6⟩
      have H6 := Lib.hid (And.intro h6 (F5.out.trans f6 (fun i q => .inl (q.elim .inl (fun q => .inr (.inr (.inr (.inr q))))))))
      clear h6 f6
      go_wp2
      go_returns
      exact ⟨rfl, by have e := HRR.out; subst e; rw [HR.out]; exact H6.out⟩
  · have HC : Hid (r.cold x = r) := by unfold Hid Raw.cold; rw [HHOT.out]; rfl
    have HR := Lib.hid ((HRD.out _ HC.out.symm).2 hlx)
    clear HRD
    have hlx' : ((lv : Int) == (x : Int)) = false := by simp; omega
    go_enter Try.func35, Try.ntmps35
    go_upto_region 1 with fail
    have b3 := HB.out (.int .u32 (pg : Nat)) (.int .i64 (r.e x).fr) (.bool false) (.bool (r.e x).ref) (.bool (r.e x).test) (.bool (r.v x))
    have f3 : Fr (FPr A b) w (w.alloc (.cells #[.int .u32 (pg : Nat), .int .i64 (r.e x).fr, .bool false, .bool (r.e x).ref, .bool (r.e x).test, .bool (r.v x)] 79)) := (Fr.refl _ w).alloc _
    have h3 := H.out.fr0 ((Fr.refl NoF w).alloc (.cells #[.int .u32 (pg : Nat), .int .i64 (r.e x).fr, .bool false, .bool (r.e x).ref, .bool (r.e x).test, .bool (r.v x)] 79))
    clear HB c1 x0 x1 x2 x3 x4 x5 le
    generalize w.alloc (.cells #[.int .u32 (pg : Nat), .int .i64 (r.e x).fr, .bool false, .bool (r.e x).ref, .bool (r.e x).test, .bool (r.v x)] 79) = wA at *
    have ldA := b3.lt
    have lbA := h3.hd.lt
    have d2 := b3.cell (i := 2) (by omega)
    simp only [Array.getD, List.getElem_toArray, List.getElem_cons_zero, List.getElem_cons_succ] at d2
    have B4 := Lib.hid b3
    have H4 := Lib.hid h3
    have F4 := Lib.hid f3
    clear h3 b3 f3 hh
    go_upto_region 3 with fail
    have h3 := H4.out
    have b3 := B4.out
    have f3 := F4.out
    clear B4 H4 F4 d2 ldA lbA hh2
    generalize wA = w3 at *
    generalize hrr : r = r3 at h3
    have hri : r3.ids = r.ids ∧ r3.mp = r.mp := by rw [← hrr]; exact ⟨rfl, rfl⟩
    have HRR := Lib.hid hrr
    clear hrr
    have HLV3 : Hid ((mpF r3.mp (pg : Nat)).getD (.int .i64 0) = .int .i64 (lv : Nat)) := by unfold Hid; rw [hri.2]; exact HLV.out
    have HXI : Hid (x ∈ r3.ids) := by unfold Hid; rw [hri.1]; exact HX.out
    clear hri
    have hb3 : Blk w3 w.heap.size 6 _ := b3
    have c6 : w3.cell? ⟨b, 6, none⟩ = some (.map (some A.mb)) := h3.c 6 (by omega)
    have d0 := hb3.cell (i := 0) (by omega)
    simp only [Array.getD, List.getElem_toArray, List.getElem_cons_zero, List.getElem_cons_succ] at d0
    have ld := hb3.lt
    have lb3 := h3.hd.lt
    have H3 := Lib.hid h3
    have B3 := Lib.hid hb3
    have F3 := Lib.hid f3
    have HLK : ∀ d, (Instr.lookup 56 (.map (some A.mb)) (.int .u32 (pg : Nat)) false).run Try.prog (w3.drewN d) = .ok (.int .i64 (lv : Nat)) (w3.drewN d) := fun d => by
      have := (h3.fr0 ((Fr.refl NoF w3).drewN d)).mp.look_run MVg (x := (pg : Nat)) hwf.out
      rw [this, HLV3.out]
    clear h3 hb3 b3 f3
    go_quiet (fail)
    have g5' : Fr NoF w3 (w3.drewN nq) := (Fr.refl NoF w3).drewN nq
    have F5 : Hid (Fr (FPr A b) w (w3.drewN nq)) := F3.out.trans g5' (fun _ q => q.elim)
    have HDR := Lib.hid (ck_drop (H3.out.fr0 g5') (x := x) HXI.out)
    clear HLK g5' c6 d0 ld lb3
    go_wp2_with fail
    refine HDR.out.mono ?_
    clear HDR
    rintro e w6 ⟨rfl, h6, f6⟩
    have H6 := Lib.hid (And.intro h6 (F5.out.trans f6 (fun i q => .inl (q.elim .inl (fun q => .inr (.inr (.inr (.inr q))))))))
    clear h6 f6
    go_wp2
    go_returns
    exact ⟨rfl, by have e := HRR.out; subst e; rw [HR.out]; exact H6.out⟩
  · have HC : Hid (r.cold x = { r with hot := r.hot - 1 }) := by unfold Hid Raw.cold; rw [HHOT.out]; rfl
    have HR := Lib.hid ((HRD.out _ HC.out.symm).1 hlx)
    clear HRD
    have hlx' : ((lv : Int) == (x : Int)) = true := by simp; omega
    go_enter Try.func35, Try.ntmps35
    go_upto_region 1 with fail
    have b3 := HB.out (.int .u32 (pg : Nat)) (.int .i64 (r.e x).fr) (.bool true) (.bool (r.e x).ref) (.bool (r.e x).test) (.bool (r.v x))
    have f3 : Fr (FPr A b) w (w.alloc (.cells #[.int .u32 (pg : Nat), .int .i64 (r.e x).fr, .bool true, .bool (r.e x).ref, .bool (r.e x).test, .bool (r.v x)] 79)) := (Fr.refl _ w).alloc _
    have h3 := H.out.fr0 ((Fr.refl NoF w).alloc (.cells #[.int .u32 (pg : Nat), .int .i64 (r.e x).fr, .bool true, .bool (r.e x).ref, .bool (r.e x).test, .bool (r.v x)] 79))
    clear HB c1 x0 x1 x2 x3 x4 x5 le
    generalize w.alloc (.cells #[.int .u32 (pg : Nat), .int .i64 (r.e x).fr, .bool true, .bool (r.e x).ref, .bool (r.e x).test, .bool (r.v x)] 79) = wA at *
    have hh1 : 1 ≤ r.hot := hh rfl
    have hh3 : 1 ≤ (r.hot : Int) := by omega
    have hh4 : (r.hot : Int) ≤ 70000 := by omega
    have c8 : wA.cell? ⟨b, 8, none⟩ = some (.int .i64 (r.hot : Nat)) := h3.c 8 (by omega)
    have fz8 := h3.hd.frozen 8
    have d2 := b3.cell (i := 2) (by omega)
    simp only [Array.getD, List.getElem_toArray, List.getElem_cons_zero, List.getElem_cons_succ] at d2
    have ldA := b3.lt
    have lbA := h3.hd.lt
    have nb : ¬ w.heap.size = b := by omega
    have b4 := b3.other (a := ⟨b, 8, none⟩) nb (.int .i64 ((r.hot - 1 : Nat) : Int))
    have h4 : PC (wA.setCell ⟨b, 8, none⟩ (.int .i64 ((r.hot - 1 : Nat) : Int))) b n A { r with hot := r.hot - 1 } := h3.setHead (r' := { r with hot := r.hot - 1 }) (prH_hot _ _ _ _ _) rfl
    have f4 : Fr (FPr A b) w (wA.setCell ⟨b, 8, none⟩ (.int .i64 ((r.hot - 1 : Nat) : Int))) := f3.setCell (p := ⟨b, 8, none⟩) (.inl (.inl rfl)) _
    have e8 : ((r.hot - 1 : Nat) : Int) = (r.hot : Int) - 1 := by omega
    rw [e8] at b4 h4 f4
    have B4 := Lib.hid b4
    have H4 := Lib.hid h4
    have F4 := Lib.hid f4
    clear b4 h4 f4 h3 b3 f3 e8 hh
    go_upto_region 3 with fail
    have h3 := H4.out
    have b3 := B4.out
    have f3 := F4.out
    clear B4 H4 F4 fz8 d2 c8 ldA lbA hh1 hh3 hh4 hh2
    generalize wA.setCell ⟨b, 8, none⟩ (.int .i64 ((r.hot : Int) - 1)) = w3 at *
    generalize hrr : ({ r with hot := r.hot - 1 } : Raw) = r3 at *
    have hri : r3.ids = r.ids ∧ r3.mp = r.mp := by rw [← hrr]; exact ⟨rfl, rfl⟩
    have HRR := Lib.hid hrr
    clear hrr
    have HLV3 : Hid ((mpF r3.mp (pg : Nat)).getD (.int .i64 0) = .int .i64 (lv : Nat)) := by unfold Hid; rw [hri.2]; exact HLV.out
    have HXI : Hid (x ∈ r3.ids) := by unfold Hid; rw [hri.1]; exact HX.out
    clear hri
    have hb3 : Blk w3 w.heap.size 6 _ := b3
    have c6 : w3.cell? ⟨b, 6, none⟩ = some (.map (some A.mb)) := h3.c 6 (by omega)
    have d0 := hb3.cell (i := 0) (by omega)
    simp only [Array.getD, List.getElem_toArray, List.getElem_cons_zero, List.getElem_cons_succ] at d0
    have ld := hb3.lt
    have lb3 := h3.hd.lt
    have H3 := Lib.hid h3
    have B3 := Lib.hid hb3
    have F3 := Lib.hid f3
    have HLK : ∀ d, (Instr.lookup 56 (.map (some A.mb)) (.int .u32 (pg : Nat)) false).run Try.prog (w3.drewN d) = .ok (.int .i64 (lv : Nat)) (w3.drewN d) := fun d => by
      have := (h3.fr0 ((Fr.refl NoF w3).drewN d)).mp.look_run MVg (x := (pg : Nat)) hwf.out
      rw [this, HLV3.out]
    clear h3 hb3 b3 f3
    go_quiet (fail)
    have g5 : Fr NoF w3 ((w3.drewN nq).drew) := ((Fr.refl NoF w3).drewN nq).drew
    have g5' : Fr NoF w3 (w3.drewN nq) := (Fr.refl NoF w3).drewN nq
    obtain ⟨w5, r5, m5, f5⟩ := (H3.out.fr0 g5).mp.del_run MVg (x := (pg : Nat)) hwf.out 0
    have hm5 := m5
    rw [show (none : Option Value) = (none : Option Nat).map fun (x : Nat) => Value.int .i64 x from rfl, mpF_upd] at hm5
    have h5 := (H3.out.fr0 g5).setMp hm5 f5
    have F5 : Hid (Fr (FPr A b) w w5) := (F3.out.trans g5 (fun _ q => q.elim)).trans f5 (fun i q => .inl (.inr (.inr (.inr (.inl q)))))
    have HDR := Lib.hid (ck_drop h5 (x := x) HXI.out)
    have d6 : (w3.drewN nq).cell? ⟨b, 6, none⟩ = some (.map (some A.mb)) := (H3.out.fr0 g5').c 6 (by omega)
    have d7 : (w3.drewN nq).cell? ⟨w.heap.size, 0, none⟩ = some (.int .u32 (pg : Nat)) := (B3.out.fr g5' id).cell (i := 0) (by omega)
    have l6 : b < (w3.drewN nq).heap.size := (H3.out.fr0 g5').hd.lt
    have l7 : w.heap.size < (w3.drewN nq).heap.size := (B3.out.fr g5' id).lt
    clear HLK h5 m5 hm5 f5 g5 g5' c6 d0 ld lb3
    generalize w3.drewN nq = wz at *
    go_wp2_with fail
    go_region_with (fail)
    all_goals
      go_wp2_with fail
      refine HDR.out.mono ?_
      clear HDR
      rintro e w6 ⟨rfl, h6, f6⟩
      have H6 := Lib.hid (And.intro h6 (F5.out.trans f6 (fun i q => .inl (q.elim .inl (fun q => .inr (.inr (.inr (.inr q))))))))
      clear h6 f6
      go_wp2
      go_returns
      exact ⟨rfl, by have e := HRR.out; subst e; rw [HR.out]; exact H6.out⟩
  · have HC : Hid (r.cold x = { r with hot := r.hot - 1 }) := by unfold Hid Raw.cold; rw [HHOT.out]; rfl
    have HR := Lib.hid ((HRD.out _ HC.out.symm).2 hlx)
    clear HRD
    have hlx' : ((lv : Int) == (x : Int)) = false := by simp; omega
    go_enter Try.func35, Try.ntmps35
    go_upto_region 1 with fail
    have b3 := HB.out (.int .u32 (pg : Nat)) (.int .i64 (r.e x).fr) (.bool true) (.bool (r.e x).ref) (.bool (r.e x).test) (.bool (r.v x))
    have f3 : Fr (FPr A b) w (w.alloc (.cells #[.int .u32 (pg : Nat), .int .i64 (r.e x).fr, .bool true, .bool (r.e x).ref, .bool (r.e x).test, .bool (r.v x)] 79)) := (Fr.refl _ w).alloc _
    have h3 := H.out.fr0 ((Fr.refl NoF w).alloc (.cells #[.int .u32 (pg : Nat), .int .i64 (r.e x).fr, .bool true, .bool (r.e x).ref, .bool (r.e x).test, .bool (r.v x)] 79))
    clear HB c1 x0 x1 x2 x3 x4 x5 le
    generalize w.alloc (.cells #[.int .u32 (pg : Nat), .int .i64 (r.e x).fr, .bool true, .bool (r.e x).ref, .bool (r.e x).test, .bool (r.v x)] 79) = wA at *
    have hh1 : 1 ≤ r.hot := hh rfl
    have hh3 : 1 ≤ (r.hot : Int) := by omega
    have hh4 : (r.hot : Int) ≤ 70000 := by omega
    have c8 : wA.cell? ⟨b, 8, none⟩ = some (.int .i64 (r.hot : Nat)) := h3.c 8 (by omega)
    have fz8 := h3.hd.frozen 8
    have d2 := b3.cell (i := 2) (by omega)
    simp only [Array.getD, List.getElem_toArray, List.getElem_cons_zero, List.getElem_cons_succ] at d2
    have ldA := b3.lt
    have lbA := h3.hd.lt
    have nb : ¬ w.heap.size = b := by omega
    have b4 := b3.other (a := ⟨b, 8, none⟩) nb (.int .i64 ((r.hot - 1 : Nat) : Int))
    have h4 : PC (wA.setCell ⟨b, 8, none⟩ (.int .i64 ((r.hot - 1 : Nat) : Int))) b n A { r with hot := r.hot - 1 } := h3.setHead (r' := { r with hot := r.hot - 1 }) (prH_hot _ _ _ _ _) rfl
    have f4 : Fr (FPr A b) w (wA.setCell ⟨b, 8, none⟩ (.int .i64 ((r.hot - 1 : Nat) : Int))) := f3.setCell (p := ⟨b, 8, none⟩) (.inl (.inl rfl)) _
    have e8 : ((r.hot - 1 : Nat) : Int) = (r.hot : Int) - 1 := by omega
    rw [e8] at b4 h4 f4
    have B4 := Lib.hid b4
    have H4 := Lib.hid h4
    have F4 := Lib.hid f4
    clear b4 h4 f4 h3 b3 f3 e8 hh
    go_upto_region 3 with fail
    have h3 := H4.out
    have b3 := B4.out
    have f3 := F4.out
    clear B4 H4 F4 fz8 d2 c8 ldA lbA hh1 hh3 hh4 hh2
    generalize wA.setCell ⟨b, 8, none⟩ (.int .i64 ((r.hot : Int) - 1)) = w3 at *
    generalize hrr : ({ r with hot := r.hot - 1 } : Raw) = r3 at *
    have hri : r3.ids = r.ids ∧ r3.mp = r.mp := by rw [← hrr]; exact ⟨rfl, rfl⟩
    have HRR := Lib.hid hrr
    clear hrr
    have HLV3 : Hid ((mpF r3.mp (pg : Nat)).getD (.int .i64 0) = .int .i64 (lv : Nat)) := by unfold Hid; rw [hri.2]; exact HLV.out
    have HXI : Hid (x ∈ r3.ids) := by unfold Hid; rw [hri.1]; exact HX.out
    clear hri
    have hb3 : Blk w3 w.heap.size 6 _ := b3
    have c6 : w3.cell? ⟨b, 6, none⟩ = some (.map (some A.mb)) := h3.c 6 (by omega)
    have d0 := hb3.cell (i := 0) (by omega)
    simp only [Array.getD, List.getElem_toArray, List.getElem_cons_zero, List.getElem_cons_succ] at d0
    have ld := hb3.lt
    have lb3 := h3.hd.lt
    have H3 := Lib.hid h3
    have B3 := Lib.hid hb3
    have F3 := Lib.hid f3
    have HLK : ∀ d, (Instr.lookup 56 (.map (some A.mb)) (.int .u32 (pg : Nat)) false).run Try.prog (w3.drewN d) = .ok (.int .i64 (lv : Nat)) (w3.drewN d) := fun d => by
      have := (h3.fr0 ((Fr.refl NoF w3).drewN d)).mp.look_run MVg (x := (pg : Nat)) hwf.out
      rw [this, HLV3.out]
    clear h3 hb3 b3 f3
    go_quiet (fail)
    have g5' : Fr NoF w3 (w3.drewN nq) := (Fr.refl NoF w3).drewN nq
    have F5 : Hid (Fr (FPr A b) w (w3.drewN nq)) := F3.out.trans g5' (fun _ q => q.elim)
    have HDR := Lib.hid (ck_drop (H3.out.fr0 g5') (x := x) HXI.out)
    clear HLK g5' c6 d0 ld lb3
    go_wp2_with fail
    refine HDR.out.mono ?_
    clear HDR
    rintro e w6 ⟨rfl, h6, f6⟩
    have H6 := Lib.hid (And.intro h6 (F5.out.trans f6 (fun i q => .inl (q.elim .inl (fun q => .inr (.inr (.inr (.inr q))))))))
    clear h6 f6
    go_wp2
    go_returns
    exact ⟨rfl, by have e := HRR.out; subst e; rw [HR.out]; exact H6.out⟩
end
end Go.Proofs.Ytoainbdkhhblbaa

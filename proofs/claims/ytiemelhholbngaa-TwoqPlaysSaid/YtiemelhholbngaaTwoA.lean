/-
  twoq's remembered pages in memory: two rows of places, the pages by place, the places by page; their calls.
-/
import Derived.Test.YtiemelhholbngaaRingG
import Derived.Test.YtiemelhholbngaaMapN
import Derived.Test.YtiemelhholbngaaR4A
import Derived.Handy
import Derived.Deep.DeepMust
import Derived.Deep.LoopGhost
namespace Go.Proofs.Ytiemelhholbngaa
open Go.RowKit Go.Maps
set_option linter.unusedVariables false

/-! ### Two rows -/
theorem RR.row2 {w : World} {b n : Nat} {l m : List Nat} {F : Nat → Prop} (h : RR w b n 2 [l, m] F) : l.Nodup ∧ m.Nodup ∧ (∀ x ∈ l, x < n) ∧ (∀ x ∈ m, x < n) ∧ ∀ x ∈ l, ¬ x ∈ m := by
  obtain ⟨nb, lb, rw, nx, pv, ls, hc, hi, hF⟩ := h.ex
  refine ⟨hi.nd 0 l rfl, hi.nd 1 m rfl, fun x hx => (hi.mem 0 l rfl x hx).1, fun x hx => (hi.mem 1 m rfl x hx).1, fun x hx hm => ?_⟩
  have h1 := (hi.mem 0 l rfl x hx).2
  have h2 := (hi.mem 1 m rfl x hm).2
  omega
theorem rowIx2 (l m : List Nat) (x : Nat) : rowIx [l, m] x = if x ∈ l then some 0 else if x ∈ m then some 1 else none := by
  by_cases h : x ∈ l
  · simp [rowIx, List.findIdx?_cons, h]
  · by_cases h2 : x ∈ m <;> simp [rowIx, List.findIdx?_cons, h, h2]
theorem awayN_not {l : List Nat} {x : Nat} (h : ¬ x ∈ l) : awayN l x = l := by
  unfold awayN
  rw [List.filter_eq_self]
  intro a ha
  have : ¬ a = x := fun e => h (e ▸ ha)
  simp [this]
theorem outL2 {l m : List Nat} (hd : ∀ x ∈ l, ¬ x ∈ m) (x : Nat) : outL [l, m] x = [awayN l x, awayN m x] := by
  by_cases h : x ∈ l
  · rw [awayN_not (hd x h)]; simp [outL, rowIx2, h, awayN]
  · by_cases h2 : x ∈ m
    · rw [awayN_not h]; simp [outL, rowIx2, h, h2, awayN]
    · rw [awayN_not h, awayN_not h2]; simp [outL, rowIx2, h, h2]
theorem putL2_0 {l m : List Nat} (hd : ∀ x ∈ l, ¬ x ∈ m) (x : Nat) : putL [l, m] 0 x false = [awayN l x ++ [x], awayN m x] := by simp [putL, outL2 hd]
theorem putL2_1 {l m : List Nat} (hd : ∀ x ∈ l, ¬ x ∈ m) (x : Nat) : putL [l, m] 1 x false = [awayN l x, awayN m x ++ [x]] := by simp [putL, outL2 hd]
theorem awayN_len {l : List Nat} (hn : l.Nodup) {x : Nat} (h : x ∈ l) : (awayN l x).length + 1 = l.length := by
  induction l with
  | nil => cases h
  | cons a l ih =>
    have hn' := List.nodup_cons.1 hn
    by_cases e : a = x
    · subst e
      have e2 : awayN (a :: l) a = awayN l a := by simp [awayN]
      rw [e2, awayN_not hn'.1]; rfl
    · have e2 : awayN (a :: l) x = a :: awayN l x := by simp [awayN, e]
      rw [e2]
      have := ih hn'.2 ((List.mem_cons.1 h).resolve_left (fun q => e q.symm))
      simp; omega

/-! ### The remembered pages -/
def isU32 (x : Nat) : Prop := x < 4294967296
theorem isU32.wf {x : Nat} (h : isU32 x) : (Lit.int .u32 (x : Int)).wf = true := WalkArith.wf_u32 ⟨by omega, by unfold isU32 at h; omega⟩
theorem MIg : MI Try.prog 46 35 3 .u32 .i64 := ⟨Try.underlying46, Try.underlying35, Try.underlying3, fun w => by kernel_rfl⟩
def uN (g : Nat → Nat) (i : Nat) : Value := .int .u32 (g i : Nat)
theorem uN_set (g : Nat → Nat) (i x : Nat) : upd (uN g) i (.int .u32 (x : Nat)) = uN (upd g i x) := by
  funext j
  by_cases e : j = i
  · subst e; simp [upd_same, uN]
  · rw [upd_other _ _ e]; simp [uN, upd_other _ _ e]
/-- The place of a page. -/
def mOf (tk : List Nat) (gp : Nat → Nat) : Int → Option Int := fun z => (tk.find? fun p => decide (((gp p : Nat) : Int) = z)).map fun (p : Nat) => (p : Int)

structure GR (w : World) (gr gpb mb out : Nat) (tk sp : List Nat) (gp : Nat → Nat) (gh : List Nat) (FG : Nat → Prop) : Prop where
  rr : RR w gr out 2 [tk, sp] FG
  pg : Blk w gpb out (uN gp)
  mp : MpN Try.prog 35 3 .u32 .i64 w mb tk.length (mOf tk gp)
  hg : gh = tk.map gp
  nd : gh.Nodup
  tl : tk.length + sp.length = out
  lt : ∀ x ∈ gh, isU32 x
  hn : out ≤ 65535
  d1 : ¬ FG gpb
  d2 : ¬ FG mb
  d3 : ¬ gpb = mb
theorem GR.fr {w w' : World} {gr gpb mb out : Nat} {tk sp : List Nat} {gp : Nat → Nat} {gh : List Nat} {FG G : Nat → Prop} (h : GR w gr gpb mb out tk sp gp gh FG) (f : Fr G w w') (h1 : ∀ i, FG i → ¬ G i) (h2 : ¬ G gpb) (h3 : ¬ G mb) : GR w' gr gpb mb out tk sp gp gh FG :=
  ⟨h.rr.fr f h1, h.pg.fr f h2, h.mp.fr f h3, h.hg, h.nd, h.tl, h.lt, h.hn, h.d1, h.d2, h.d3⟩

theorem mOf_none {tk : List Nat} {gp : Nat → Nat} {x : Nat} (h : ¬ x ∈ tk.map gp) : mOf tk gp (x : Int) = none := by
  unfold mOf
  rw [Option.map_eq_none_iff, List.find?_eq_none]
  intro p hp e
  have e : ((gp p : Nat) : Int) = x := by simpa using e
  exact h (List.mem_map.2 ⟨p, hp, by omega⟩)
theorem gp_inj {tk : List Nat} {gp : Nat → Nat} (hn : (tk.map gp).Nodup) {p q : Nat} (hp : p ∈ tk) (hq : q ∈ tk) (e : gp p = gp q) : p = q := by
  induction tk with
  | nil => cases hp
  | cons a tk ih =>
    have hn' := List.nodup_cons.1 hn
    rcases List.mem_cons.1 hp with e1 | hp1
    · rcases List.mem_cons.1 hq with e2 | hq1
      · rw [e1, e2]
      · exact (hn'.1 (by rw [← e1, e]; exact List.mem_map.2 ⟨q, hq1, rfl⟩)).elim
    · rcases List.mem_cons.1 hq with e2 | hq1
      · exact (hn'.1 (by rw [← e2, ← e]; exact List.mem_map.2 ⟨p, hp1, rfl⟩)).elim
      · exact ih hn'.2 hp1 hq1
theorem mOf_some {tk : List Nat} {gp : Nat → Nat} (hn : (tk.map gp).Nodup) {p : Nat} (hp : p ∈ tk) : mOf tk gp ((gp p : Nat) : Int) = some (p : Int) := by
  unfold mOf
  cases e : tk.find? fun q => decide (((gp q : Nat) : Int) = ((gp p : Nat) : Int)) with
  | none =>
    have := List.find?_eq_none.1 e p hp
    simp at this
  | some q =>
    have h1 := List.find?_some e
    have h2 := List.mem_of_find?_eq_some e
    have h1 : ((gp q : Nat) : Int) = (gp p : Nat) := by simpa using h1
    rw [gp_inj hn h2 hp (by omega)]; rfl
theorem mOf_eq {tk : List Nat} {gp : Nat → Nat} (hn : (tk.map gp).Nodup) {m : Int → Option Int} (h1 : ∀ p ∈ tk, m ((gp p : Nat) : Int) = some (p : Int)) (h2 : ∀ z, (∀ p ∈ tk, ¬ ((gp p : Nat) : Int) = z) → m z = none) : m = mOf tk gp := by
  funext z
  by_cases h : ∃ p ∈ tk, ((gp p : Nat) : Int) = z
  · obtain ⟨p, hp, rfl⟩ := h
    rw [mOf_some hn hp, h1 p hp]
  · have h' : ∀ p ∈ tk, ¬ ((gp p : Nat) : Int) = z := fun p hp e => h ⟨p, hp, e⟩
    rw [h2 z h']
    unfold mOf
    symm
    rw [Option.map_eq_none_iff, List.find?_eq_none]
    intro p hp e
    exact h' p hp (by simpa using e)
theorem map_awayN {tk : List Nat} {gp : Nat → Nat} (hn : (tk.map gp).Nodup) {p : Nat} (hp : p ∈ tk) : (awayN tk p).map gp = awayN (tk.map gp) (gp p) := by
  unfold awayN
  rw [List.filter_map]
  congr 1
  apply List.filter_congr
  intro q hq
  by_cases e : q = p
  · subst e; simp
  · have : ¬ gp q = gp p := fun e2 => e (gp_inj hn hq hp e2)
    simp [e, this]

/-- What may be read of the head. -/
structure GH (w : World) (b gr gpb mb out : Nat) (FG : Nat → Prop) : Prop where
  c5 : w.cell? ⟨b, 5, none⟩ = some (.pointer (some ⟨gr, 0, none⟩))
  c6 : w.cell? ⟨b, 6, none⟩ = some (.slice (some ⟨gpb, 0, none⟩) out out)
  c7 : w.cell? ⟨b, 7, none⟩ = some (.map (some mb))
  lb : b < w.heap.size
  n1 : ¬ FG b
  n2 : ¬ b = gpb
  n3 : ¬ b = mb
theorem GH.fr {w w' : World} {b gr gpb mb out : Nat} {FG G : Nat → Prop} (h : GH w b gr gpb mb out FG) (f : Fr G w w') (hb : ¬ G b) : GH w' b gr gpb mb out FG :=
  ⟨(f.cell (p := ⟨b, 5, none⟩) h.lb hb).trans h.c5, (f.cell (p := ⟨b, 6, none⟩) h.lb hb).trans h.c6, (f.cell (p := ⟨b, 7, none⟩) h.lb hb).trans h.c7, Nat.lt_of_lt_of_le h.lb f.size, h.n1, h.n2, h.n3⟩
/-- The blocks that may change. -/
def FGm (FG : Nat → Prop) (gpb mb : Nat) : Nat → Prop := fun i => FG i ∨ i = gpb ∨ i = mb

section
variable {w w' : World} {b gr gpb mb out : Nat} {tk sp : List Nat} {gp : Nat → Nat} {gh : List Nat} {FG : Nat → Prop}
theorem forget_no (h : GR w gr gpb mb out tk sp gp gh FG) (g : GH w b gr gpb mb out FG) {x : Nat} (hx : isU32 x) (hm : ¬ x ∈ gh) :
    Calls Try.prog 45 #[.pointer (some ⟨b, 5, none⟩), .int .u32 x] w fun e w' => e = .returned (.bool false) ∧ w = w' := by
  have c7 := g.c7
  have HM := Lib.hid h.mp
  have HX := Lib.hid (mOf_none (x := x) (h.hg ▸ hm))
  have HW := Lib.hid hx.wf
  clear h g hx hm
  go_enter Try.func45, Try.ntmps45
  go_wp2_with (at_lookup; go_must (refine wp_lookN_none MIg HM.out HX.out rfl _ _ rfl (by rfl) (by rfl) HW.out ?_))
  go_returns
  exact ⟨rfl, rfl⟩

set_option maxHeartbeats 1000000 in
theorem forget_yes (h : GR w gr gpb mb out tk sp gp gh FG) (g : GH w b gr gpb mb out FG) {p : Nat} (hp : p ∈ tk) :
    Calls Try.prog 45 #[.pointer (some ⟨b, 5, none⟩), .int .u32 (gp p : Nat)] w fun e w' => e = .returned (.bool true) ∧ GR w' gr gpb mb out (awayN tk p) (sp ++ [p]) gp (awayN gh (gp p)) FG ∧ Fr (FGm FG gpb mb) w w' := by
  have c7 := g.c7
  have c5 := g.c5
  have hr2 := h.rr.row2
  have hpn : p < out := hr2.2.2.1 p hp
  have HM := Lib.hid h.mp
  have HX := Lib.hid (mOf_some (h.hg ▸ h.nd) hp)
  have HW := Lib.hid (h.lt (gp p) (by rw [h.hg]; exact List.mem_map.2 ⟨p, hp, rfl⟩)).wf
  have HB := Lib.hid (back_yes h.rr 1 p (by omega) hpn)
  have HG := Lib.hid g
  have HH := Lib.hid h
  have hlen := awayN_len hr2.1 hp
  have KEY : Hid (∀ w1 w2, RR w1 gr out 2 (putL [tk, sp] 1 p false) FG → Fr FG w w1 → MpN Try.prog 35 3 .u32 .i64 w2 mb (if (mOf tk gp ((gp p : Nat) : Int)).isSome then tk.length - 1 else tk.length) (updI (mOf tk gp) ((gp p : Nat) : Int) none) → Fr (fun i => i = mb) w1 w2 →
      GR w2 gr gpb mb out (awayN tk p) (sp ++ [p]) gp (awayN gh (gp p)) FG ∧ Fr (FGm FG gpb mb) w w2) := by
    intro w1 w2 hR f1 hM f2
    have h := HH.out
    rw [putL2_1 hr2.2.2.2.2, awayN_not (hr2.2.2.2.2 p hp)] at hR
    rw [HX.out] at hM
    have hnd := h.hg ▸ h.nd
    have e1 : updI (mOf tk gp) ((gp p : Nat) : Int) none = mOf (awayN tk p) gp := by
      refine mOf_eq ?_ ?_ ?_
      · rw [map_awayN hnd hp]; exact hnd.filter _
      · intro q hq
        have hq' : q ∈ tk ∧ ¬ q = p := by simpa [awayN] using hq
        have : ¬ ((gp q : Nat) : Int) = (gp p : Nat) := fun e => hq'.2 (gp_inj hnd hq'.1 hp (by omega))
        rw [updI_other _ _ this]
        exact mOf_some hnd hq'.1
      · intro z hz
        by_cases e : z = (gp p : Nat)
        · subst e; exact updI_same _ _ _
        · rw [updI_other _ _ e]
          unfold mOf
          rw [Option.map_eq_none_iff, List.find?_eq_none]
          intro q hq e2
          have e2 : ((gp q : Nat) : Int) = z := by simpa using e2
          refine hz q ?_ e2
          have : ¬ q = p := by rintro rfl; exact e e2.symm
          simpa [awayN] using ⟨hq, this⟩
    rw [e1] at hM
    refine ⟨⟨hR.fr f2 (fun i hi e => h.d2 (e ▸ hi)), (h.pg.fr f1 h.d1).fr f2 h.d3, ?_, ?_, h.nd.filter _, ?_, fun x hx => h.lt x ?_, h.hn, h.d1, h.d2, h.d3⟩, (f1.mono (fun i q => .inl q)).trans f2 (fun i q => .inl (.inr (.inr q)))⟩
    · have : tk.length - 1 = (awayN tk p).length := by omega
      rw [← this]; exact hM
    · rw [map_awayN hnd hp, ← h.hg]
    · have := h.tl
      rw [List.length_append]; simp; omega
    · exact (List.mem_filter.1 hx).1
  clear h g hr2 hlen
  generalize gp p = x at *
  go_enter Try.func45, Try.ntmps45
  go_wp2_with (at_lookup; go_must (refine wp_lookN_some MIg HM.out HX.out rfl _ _ rfl (by rfl) (by rfl) HW.out ?_))
  refine HB.out.mono ?_
  clear HB
  rintro e w1 ⟨rfl, hR, f1⟩
  have hg1 := HG.out.fr f1 HG.out.n1
  have e7 := hg1.c7
  have HM1 := Lib.hid (HM.out.fr f1 HH.out.d2)
  have HR := Lib.hid hR
  have HF1 := Lib.hid f1
  clear hR f1 hg1 HM
  go_wp2_with (at_delete; go_must (refine wp_delN MIg HM1.out rfl _ _ rfl (by rfl) (by rfl) HW.out ?_); intro w2 hm2 f2; have K := Lib.hid (KEY.out w1 w2 HR.out HF1.out hm2 f2); clear hm2 f2)
  go_returns
  exact ⟨rfl, K.out⟩
end
end Go.Proofs.Ytiemelhholbngaa

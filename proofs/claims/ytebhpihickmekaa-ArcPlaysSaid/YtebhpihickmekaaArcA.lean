/-
  arc's remembered pages in memory: three rows of places, the pages by place, the places by page; what side, len and forget answer.
-/
import Derived.Test.YtebhpihickmekaaTwoA
namespace Go.Proofs.Ytebhpihickmekaa
open Go.RowKit Go.Maps
set_option linter.unusedVariables false

/-! ### Three rows -/
structure D3 (l m s : List Nat) : Prop where
  lm : ∀ x ∈ l, ¬ x ∈ m
  ls : ∀ x ∈ l, ¬ x ∈ s
  ms : ∀ x ∈ m, ¬ x ∈ s
structure R3 (n : Nat) (l m s : List Nat) : Prop extends D3 l m s where
  nl : l.Nodup
  nm : m.Nodup
  ns : s.Nodup
  bl : ∀ x ∈ l, x < n
  bm : ∀ x ∈ m, x < n
  bs : ∀ x ∈ s, x < n
theorem RR.row3 {w : World} {b n : Nat} {l m s : List Nat} {F : Nat → Prop} (h : RR w b n 3 [l, m, s] F) : R3 n l m s := by
  obtain ⟨nb, lb, rw, nx, pv, ls, hc, hi, hF⟩ := h.ex
  have m0 := hi.mem 0 l rfl
  have m1 := hi.mem 1 m rfl
  have m2 := hi.mem 2 s rfl
  refine ⟨⟨fun x hx hm => ?_, fun x hx hm => ?_, fun x hx hm => ?_⟩, hi.nd 0 l rfl, hi.nd 1 m rfl, hi.nd 2 s rfl, fun x hx => (m0 x hx).1, fun x hx => (m1 x hx).1, fun x hx => (m2 x hx).1⟩
  · have h1 := (m0 x hx).2
    have h2 := (m1 x hm).2
    omega
  · have h1 := (m0 x hx).2
    have h2 := (m2 x hm).2
    omega
  · have h1 := (m1 x hx).2
    have h2 := (m2 x hm).2
    omega
theorem rowIx3 (l m s : List Nat) (x : Nat) : rowIx [l, m, s] x = if x ∈ l then some 0 else if x ∈ m then some 1 else if x ∈ s then some 2 else none := by
  by_cases h : x ∈ l
  · simp [rowIx, List.findIdx?_cons, h]
  · by_cases h2 : x ∈ m
    · simp [rowIx, List.findIdx?_cons, h, h2]
    · by_cases h3 : x ∈ s <;> simp [rowIx, List.findIdx?_cons, h, h2, h3]
theorem outL3 {l m s : List Nat} (hd : D3 l m s) (x : Nat) : outL [l, m, s] x = [awayN l x, awayN m x, awayN s x] := by
  by_cases h : x ∈ l
  · rw [awayN_not (hd.lm x h), awayN_not (hd.ls x h)]; simp [outL, rowIx3, h, awayN]
  · by_cases h2 : x ∈ m
    · rw [awayN_not h, awayN_not (hd.ms x h2)]; simp [outL, rowIx3, h, h2, awayN]
    · by_cases h3 : x ∈ s
      · rw [awayN_not h, awayN_not h2]; simp [outL, rowIx3, h, h2, h3, awayN]
      · rw [awayN_not h, awayN_not h2, awayN_not h3]; simp [outL, rowIx3, h, h2, h3]
theorem putL3_0 {l m s : List Nat} (hd : D3 l m s) (x : Nat) : putL [l, m, s] 0 x false = [awayN l x ++ [x], awayN m x, awayN s x] := by simp [putL, outL3 hd]
theorem putL3_1 {l m s : List Nat} (hd : D3 l m s) (x : Nat) : putL [l, m, s] 1 x false = [awayN l x, awayN m x ++ [x], awayN s x] := by simp [putL, outL3 hd]
theorem putL3_2 {l m s : List Nat} (hd : D3 l m s) (x : Nat) : putL [l, m, s] 2 x false = [awayN l x, awayN m x, awayN s x ++ [x]] := by simp [putL, outL3 hd]
theorem ix3 (l m s : List Nat) (f : Nat) : ixI (ixZ [l, m, s] (f : Int)) = if f ∈ l then 0 else if f ∈ m then 1 else if f ∈ s then 2 else -1 := by
  rw [ixZ_nat, rowIx3]
  split
  · rfl
  · split
    · rfl
    · split <;> rfl
theorem mOf_same {tk tk' : List Nat} {gp : Nat → Nat} (h1 : (tk.map gp).Nodup) (h2 : (tk'.map gp).Nodup) (h : ∀ x, x ∈ tk ↔ x ∈ tk') : mOf tk gp = mOf tk' gp := by
  refine mOf_eq h2 (fun p hp => mOf_some h1 ((h p).2 hp)) (fun z hz => ?_)
  unfold mOf
  rw [Option.map_eq_none_iff, List.find?_eq_none]
  intro q hq e
  exact hz q ((h q).1 hq) (by simpa using e)

/-! ### The remembered pages -/
structure GA (w : World) (gr gpb mb out : Nat) (k1 k2 sp : List Nat) (gp : Nat → Nat) (b1 b2 : List Nat) (FG : Nat → Prop) : Prop where
  rr : RR w gr out 3 [k1, k2, sp] FG
  pg : Blk w gpb out (uN gp)
  mp : MpN Try.prog 34 3 .u32 .i64 w mb (k1 ++ k2).length (mOf (k1 ++ k2) gp)
  h1 : b1 = k1.map gp
  h2 : b2 = k2.map gp
  nd : (b1 ++ b2).Nodup
  tl : k1.length + k2.length + sp.length = out
  lt : ∀ x ∈ b1 ++ b2, isU32 x
  hn : out ≤ 65536
  d1 : ¬ FG gpb
  d2 : ¬ FG mb
  d3 : ¬ gpb = mb
theorem GA.fr {w w' : World} {gr gpb mb out : Nat} {k1 k2 sp : List Nat} {gp : Nat → Nat} {b1 b2 : List Nat} {FG G : Nat → Prop} (h : GA w gr gpb mb out k1 k2 sp gp b1 b2 FG) (f : Fr G w w') (q1 : ∀ i, FG i → ¬ G i) (q2 : ¬ G gpb) (q3 : ¬ G mb) : GA w' gr gpb mb out k1 k2 sp gp b1 b2 FG :=
  ⟨h.rr.fr f q1, h.pg.fr f q2, h.mp.fr f q3, h.h1, h.h2, h.nd, h.tl, h.lt, h.hn, h.d1, h.d2, h.d3⟩
/-- The side of a page. -/
def sideN (b1 b2 : List Nat) (x : Nat) : Int := if x ∈ b1 then 0 else if x ∈ b2 then 1 else -1
/-- What a change of them leaves. -/
def RemA (w : World) (gr gpb mb out : Nat) (b1 b2 : List Nat) (FG : Nat → Prop) (w' : World) : Prop := ∃ k1 k2 sp gp, GA w' gr gpb mb out k1 k2 sp gp b1 b2 FG ∧ Fr (FGm FG gpb mb) w w'

section
variable {w w' : World} {b gr gpb mb out : Nat} {k1 k2 sp : List Nat} {gp : Nat → Nat} {b1 b2 : List Nat} {FG : Nat → Prop}
theorem GA.fr0 (h : GA w gr gpb mb out k1 k2 sp gp b1 b2 FG) (f : Fr NoF w w') : GA w' gr gpb mb out k1 k2 sp gp b1 b2 FG := h.fr f (fun _ _ q => q) id id
theorem GA.ndk (h : GA w gr gpb mb out k1 k2 sp gp b1 b2 FG) : ((k1 ++ k2).map gp).Nodup := by rw [List.map_append, ← h.h1, ← h.h2]; exact h.nd
theorem GA.len (h : GA w gr gpb mb out k1 k2 sp gp b1 b2 FG) : b1.length = k1.length ∧ b2.length = k2.length := by rw [h.h1, h.h2]; simp
theorem GA.mem (h : GA w gr gpb mb out k1 k2 sp gp b1 b2 FG) {x : Nat} (hx : x ∈ b1 ++ b2) : ∃ p, p ∈ k1 ++ k2 ∧ gp p = x := by
  rw [h.h1, h.h2, ← List.map_append] at hx
  obtain ⟨p, hp, e⟩ := List.mem_map.1 hx
  exact ⟨p, hp, e⟩
theorem GA.nope (h : GA w gr gpb mb out k1 k2 sp gp b1 b2 FG) {x : Nat} (hm : ¬ x ∈ b1 ++ b2) : mOf (k1 ++ k2) gp (x : Int) = none := by
  refine mOf_none ?_
  rw [List.map_append, ← h.h1, ← h.h2]; exact hm
theorem GA.side (h : GA w gr gpb mb out k1 k2 sp gp b1 b2 FG) {p : Nat} (hp : p ∈ k1 ++ k2) : sideN b1 b2 (gp p) = if p ∈ k1 then 0 else if p ∈ k2 then 1 else if p ∈ sp then 2 else -1 := by
  have hn := h.ndk
  unfold sideN
  by_cases h1 : p ∈ k1
  · rw [if_pos h1, if_pos]
    rw [h.h1]; exact List.mem_map.2 ⟨p, h1, rfl⟩
  · have h2 : p ∈ k2 := (List.mem_append.1 hp).resolve_left h1
    rw [if_neg h1, if_pos h2, if_neg, if_pos]
    · rw [h.h2]; exact List.mem_map.2 ⟨p, h2, rfl⟩
    · rw [h.h1]
      intro q
      obtain ⟨y, hy, e⟩ := List.mem_map.1 q
      have := gp_inj hn (List.mem_append.2 (.inl hy)) hp e
      exact h1 (this ▸ hy)

theorem ga_len0 (h : GA w gr gpb mb out k1 k2 sp gp b1 b2 FG) (g : GH w b gr gpb mb out FG) : Calls Try.prog 52 #[.pointer (some ⟨b, 5, none⟩), .int .i64 0] w fun e w' => e = .returned (.int .i64 (b1.length : Nat)) ∧ w = w' := by
  have c5 := g.c5
  have HL := Len_all h.rr 0
  rw [show rowZ [k1, k2, sp] 0 = k1 from rfl, ← h.len.1] at HL
  have HL := Lib.hid HL
  clear h g
  go_enter Try.func52, Try.ntmps52
  go_wp2_with (go_at_call 36; refine HL.out.mono ?_; rintro e w' ⟨rfl, rfl⟩)
  go_returns
  exact ⟨rfl, rfl⟩
theorem ga_len1 (h : GA w gr gpb mb out k1 k2 sp gp b1 b2 FG) (g : GH w b gr gpb mb out FG) : Calls Try.prog 52 #[.pointer (some ⟨b, 5, none⟩), .int .i64 1] w fun e w' => e = .returned (.int .i64 (b2.length : Nat)) ∧ w = w' := by
  have c5 := g.c5
  have HL := Len_all h.rr 1
  rw [show rowZ [k1, k2, sp] 1 = k2 from rfl, ← h.len.2] at HL
  have HL := Lib.hid HL
  clear h g
  go_enter Try.func52, Try.ntmps52
  go_wp2_with (go_at_call 36; refine HL.out.mono ?_; rintro e w' ⟨rfl, rfl⟩)
  go_returns
  exact ⟨rfl, rfl⟩

theorem ga_side (h : GA w gr gpb mb out k1 k2 sp gp b1 b2 FG) (g : GH w b gr gpb mb out FG) {x : Nat} (hx : isU32 x) :
    Calls Try.prog 30 #[.pointer (some ⟨b, 5, none⟩), .int .u32 x] w fun e w' => e = .returned (.int .i64 (sideN b1 b2 x)) ∧ w = w' := by
  have c5 := g.c5
  have c7 := g.c7
  have HM := Lib.hid h.mp
  have HW := Lib.hid hx.wf
  by_cases hm : x ∈ b1 ++ b2
  · obtain ⟨p, hp, rfl⟩ := h.mem hm
    have HI := In_all h.rr p
    rw [ix3, ← h.side hp] at HI
    have HI := Lib.hid HI
    have HX := Lib.hid (mOf_some h.ndk hp)
    clear h g hx hm
    generalize sideN b1 b2 (gp p) = z at *
    generalize gp p = x at *
    go_enter Try.func30, Try.ntmps30
    go_wp2_with (first
      | (at_lookup; go_must (refine wp_lookN_some MIg HM.out HX.out rfl _ _ rfl (by rfl) (by rfl) HW.out ?_))
      | (go_at_call 38; refine HI.out.mono ?_; rintro e w' ⟨rfl, rfl⟩))
    go_returns
    exact ⟨rfl, rfl⟩
  · have HX := Lib.hid (h.nope hm)
    have HE : Hid (sideN b1 b2 x = -1) := by
      have h1 : ¬ x ∈ b1 := fun q => hm (List.mem_append.2 (.inl q))
      have h2 : ¬ x ∈ b2 := fun q => hm (List.mem_append.2 (.inr q))
      unfold Hid sideN
      rw [if_neg h1, if_neg h2]
    rw [HE.out]
    clear h g hx hm HE
    go_enter Try.func30, Try.ntmps30
    go_wp2_with (at_lookup; go_must (refine wp_lookN_none MIg HM.out HX.out rfl _ _ rfl (by rfl) (by rfl) HW.out ?_))
    go_returns
    exact ⟨rfl, rfl⟩

theorem ga_forget_no (h : GA w gr gpb mb out k1 k2 sp gp b1 b2 FG) (g : GH w b gr gpb mb out FG) {x : Nat} (hx : isU32 x) (hm : ¬ x ∈ b1 ++ b2) :
    Calls Try.prog 34 #[.pointer (some ⟨b, 5, none⟩), .int .u32 x] w fun e w' => e = .returned (.bool false) ∧ w = w' := by
  have c7 := g.c7
  have HM := Lib.hid h.mp
  have HX := Lib.hid (h.nope hm)
  have HW := Lib.hid hx.wf
  clear h g hx hm
  go_enter Try.func34, Try.ntmps34
  go_wp2_with (at_lookup; go_must (refine wp_lookN_none MIg HM.out HX.out rfl _ _ rfl (by rfl) (by rfl) HW.out ?_))
  go_returns
  exact ⟨rfl, rfl⟩

theorem GA.forgot (h : GA w gr gpb mb out k1 k2 sp gp b1 b2 FG) {p : Nat} (hp : p ∈ k1 ++ k2) {w1 w2 : World} (hR : RR w1 gr out 3 (putL [k1, k2, sp] 2 p false) FG) (f1 : Fr FG w w1)
    (hM : MpN Try.prog 34 3 .u32 .i64 w2 mb (if (mOf (k1 ++ k2) gp ((gp p : Nat) : Int)).isSome then (k1 ++ k2).length - 1 else (k1 ++ k2).length) (updI (mOf (k1 ++ k2) gp) ((gp p : Nat) : Int) none)) (f2 : Fr (fun i => i = mb) w1 w2) :
    GA w2 gr gpb mb out (awayN k1 p) (awayN k2 p) (sp ++ [p]) gp (awayN b1 (gp p)) (awayN b2 (gp p)) FG ∧ Fr (FGm FG gpb mb) w w2 := by
  have hr := h.rr.row3
  have hnd := h.ndk
  have hps : ¬ p ∈ sp := fun q => (List.mem_append.1 hp).elim (fun q1 => hr.ls p q1 q) (fun q1 => hr.ms p q1 q)
  rw [putL3_2 hr.toD3, awayN_not hps] at hR
  rw [mOf_some hnd hp] at hM
  have hnd12 : (k1 ++ k2).Nodup := (List.nodup_append.2 ⟨hr.nl, hr.nm, fun x hx y hy e => hr.lm x hx (e ▸ hy)⟩)
  have ea : awayN (k1 ++ k2) p = awayN k1 p ++ awayN k2 p := by unfold awayN; exact List.filter_append ..
  have hlen := awayN_len hnd12 hp
  have e1 : updI (mOf (k1 ++ k2) gp) ((gp p : Nat) : Int) none = mOf (awayN (k1 ++ k2) p) gp := by
    refine mOf_eq ?_ ?_ ?_
    · rw [map_awayN hnd hp]; exact hnd.filter _
    · intro q hq
      have hq' : q ∈ k1 ++ k2 ∧ ¬ q = p := by
        have := List.mem_filter.1 hq
        exact ⟨this.1, by simpa using this.2⟩
      have : ¬ ((gp q : Nat) : Int) = (gp p : Nat) := fun e => hq'.2 (gp_inj hnd hq'.1 hp (by omega))
      rw [updI_other _ _ this]
      exact mOf_some hnd hq'.1
    · intro z hz
      by_cases e : z = (gp p : Nat)
      · subst e; exact updI_same _ _ _
      · rw [updI_other _ _ e]
        unfold mOf
        rw [Option.map_eq_none_iff, List.find?_eq_none]
        intro q hq e2
        have e2 : ((gp q : Nat) : Int) = z := by simpa using e2
        refine hz q ?_ e2
        have : ¬ q = p := by rintro rfl; exact e e2.symm
        exact List.mem_filter.2 ⟨hq, by simpa using this⟩
  rw [e1, ea] at hM
  have hmap : ∀ l : List Nat, (∀ x ∈ l, x ∈ k1 ++ k2) → (awayN l p).map gp = awayN (l.map gp) (gp p) := by
    intro l hl
    unfold awayN
    rw [List.filter_map]
    congr 1
    apply List.filter_congr
    intro q hq
    by_cases e : q = p
    · subst e; simp
    · have : ¬ gp q = gp p := fun e2 => e (gp_inj hnd (hl q hq) hp e2)
      simp [e, this]
  have eb : awayN b1 (gp p) ++ awayN b2 (gp p) = awayN (b1 ++ b2) (gp p) := by unfold awayN; exact (List.filter_append ..).symm
  refine ⟨⟨hR.fr f2 (fun i hi e => h.d2 (e ▸ hi)), (h.pg.fr f1 h.d1).fr f2 h.d3, ?_, ?_, ?_, ?_, ?_, fun x hx => h.lt x ?_, h.hn, h.d1, h.d2, h.d3⟩, (f1.mono (fun i q => .inl q)).trans f2 (fun i q => .inl (.inr (.inr q)))⟩
  · have : (k1 ++ k2).length - 1 = (awayN k1 p ++ awayN k2 p).length := by rw [← ea]; omega
    rw [← this]; exact hM
  · rw [hmap k1 (fun x hx => List.mem_append.2 (.inl hx)), ← h.h1]
  · rw [hmap k2 (fun x hx => List.mem_append.2 (.inr hx)), ← h.h2]
  · rw [eb]; exact h.nd.filter _
  · have := h.tl
    rw [ea] at hlen
    simp only [List.length_append, List.length_cons, List.length_nil] at *
    omega
  · rw [eb] at hx; exact (List.mem_filter.1 hx).1

set_option maxHeartbeats 1000000 in
theorem ga_forget_yes (h : GA w gr gpb mb out k1 k2 sp gp b1 b2 FG) (g : GH w b gr gpb mb out FG) {p : Nat} (hp : p ∈ k1 ++ k2) :
    Calls Try.prog 34 #[.pointer (some ⟨b, 5, none⟩), .int .u32 (gp p : Nat)] w fun e w' => e = .returned (.bool true) ∧ GA w' gr gpb mb out (awayN k1 p) (awayN k2 p) (sp ++ [p]) gp (awayN b1 (gp p)) (awayN b2 (gp p)) FG ∧ Fr (FGm FG gpb mb) w w' := by
  have c7 := g.c7
  have c5 := g.c5
  have hr := h.rr.row3
  have hpn : p < out := (List.mem_append.1 hp).elim (hr.bl p) (hr.bm p)
  have HM := Lib.hid h.mp
  have HX := Lib.hid (mOf_some h.ndk hp)
  have HW := Lib.hid (h.lt (gp p) (by rw [h.h1, h.h2, ← List.map_append]; exact List.mem_map.2 ⟨p, hp, rfl⟩)).wf
  have HB := Lib.hid (back_yes h.rr 2 p (by omega) hpn)
  have HG := Lib.hid g
  have HD := Lib.hid h.d2
  have KEY := Lib.hid (fun w1 w2 => @GA.forgot w gr gpb mb out k1 k2 sp gp b1 b2 FG h p hp w1 w2)
  clear h g hr hp
  generalize gp p = x at *
  go_enter Try.func34, Try.ntmps34
  go_wp2_with (at_lookup; go_must (refine wp_lookN_some MIg HM.out HX.out rfl _ _ rfl (by rfl) (by rfl) HW.out ?_))
  refine HB.out.mono ?_
  clear HB
  rintro e w1 ⟨rfl, hR, f1⟩
  have hg1 := HG.out.fr f1 HG.out.n1
  have e7 := hg1.c7
  have HM1 := Lib.hid (HM.out.fr f1 HD.out)
  have HR := Lib.hid hR
  have HF1 := Lib.hid f1
  clear hR f1 hg1 HM
  go_wp2_with (at_delete; go_must (refine wp_delN MIg HM1.out rfl _ _ rfl (by rfl) (by rfl) HW.out ?_); intro w2 hm2 f2; have K := Lib.hid (KEY.out w1 w2 HR.out HF1.out hm2 f2); clear hm2 f2)
  go_returns
  exact ⟨rfl, K.out⟩
end
end Go.Proofs.Ytebhpihickmekaa

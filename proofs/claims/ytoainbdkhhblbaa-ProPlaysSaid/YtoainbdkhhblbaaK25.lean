/-
  Pro's clock: an entry comes, is laid at the end, goes.
-/
import Derived.Test.YtoainbdkhhblbaaK24
namespace Go.Proofs.Ytoainbdkhhblbaa
open Go.RowKit Go.Maps
set_option linter.unusedVariables false
set_option linter.unusedSimpArgs false

def Raw.lay (r : Raw) (x : Nat) : Raw :=
  if r.ids = [] then { r with ids := [x], sp := awayN r.sp x, h := fun _ => x } else { r with ids := insL r.ids x (r.h 0), sp := awayN r.sp x }
def Raw.drop (r : Raw) (x : Nat) : Raw := { r.leave x with sp := r.sp ++ [x] }
def Raw.come (r : Raw) (y : En) : Raw := Raw.lay { r with e := upd r.e (r.sp.head?.getD 0) y, v := upd r.v (r.sp.head?.getD 0) false } (r.sp.head?.getD 0)
section
variable {w w' : World} {b n : Nat} {A : AP} {r : Raw}
theorem PC.hands (h : PC w b n A r) (x : Nat) : PC (((w.setCell ⟨b, 2, none⟩ (.int .i64 (x : Nat))).setCell ⟨b, 3, none⟩ (.int .i64 (x : Nat))).setCell ⟨b, 4, none⟩ (.int .i64 (x : Nat))) b n A { r with h := fun _ => x } := by
  have h1 := h.setHead (r' := { r with h := upd r.h 0 x }) (prH_h _ _ _ _ 0 x (by omega)) rfl
  have h2 := h1.setHead (r' := { r with h := upd (upd r.h 0 x) 1 x }) (prH_h _ _ _ _ 1 x (by omega)) rfl
  have h3 := h2.setHead (r' := { r with h := upd (upd (upd r.h 0 x) 1 x) 2 x }) (prH_h _ _ _ _ 2 x (by omega)) rfl
  refine ⟨h3.hd.congr (fun i hi => ?_), h3.rr, h3.en, h3.fb, h3.mp, h3.lb, h3.hn⟩
  match i with
  | 0 => rfl
  | 1 => rfl
  | 2 => simp [prH, upd]
  | 3 => simp [prH, upd]
  | 4 => simp [prH, upd]
  | 5 => rfl
  | 6 => rfl
  | 7 => rfl
  | 8 => rfl
  | 9 => rfl
  | i + 10 => omega
set_option maxRecDepth 100000 in
set_option maxHeartbeats 1000000 in
theorem ck_lay0 (h : PC w b n A r) {x : Nat} (hx : x < 2 * n) (he : r.ids = []) : Calls Try.prog 60 #[.pointer (some ⟨b, 0, none⟩), .int .i64 x] w fun e w' => e = .returned (.tuple #[]) ∧ PC w' b n A (r.lay x) ∧ Fr (FCk A b) w w' := by
  have HL := ck_len h
  rw [he] at HL
  have HL := Lib.hid HL
  have c0 : w.cell? ⟨b, 0, none⟩ = some (.pointer (some ⟨A.rb, 0, none⟩)) := h.c 0 (by omega)
  have HB := Lib.hid (back_yes h.rr 0 x (by omega) hx)
  have H := Lib.hid h
  have HE := Lib.hid he
  have hb := h.hd.lt
  clear h he hx
  go_enter Try.func60, Try.ntmps60
  go_wp2_with (go_at_call 38; refine HL.out.mono ?_; rintro e w' ⟨rfl, rfl⟩)
  refine HB.out.mono ?_
  clear HB HL
  rintro e w1 ⟨rfl, hR, f1⟩
  have key : PC w1 b n A { r with ids := [x], sp := awayN r.sp x } := by
    have hp := H.out
    have hR' : RR w1 A.rb (2 * n) 2 [[x], awayN r.sp x] A.FR := by
      have e1 := putL2_0 (l := r.ids) (m := r.sp) hp.lists.2.2.2.2 x
      rw [HE.out] at e1
      rw [HE.out] at hR
      rw [e1] at hR; exact hR
    exact hp.rows f1 hR'
  have hb1 := key.hd
  have fz2 := hb1.frozen 2
  have fz3 := hb1.frozen 3
  have fz4 := hb1.frozen 4
  have d2 := hb1.cell (i := 2) (by omega)
  have d3 := hb1.cell (i := 3) (by omega)
  have d4 := hb1.cell (i := 4) (by omega)
  have lb1 := hb1.lt
  have KEY := Lib.hid (key.hands x)
  have HF := Lib.hid f1
  have HS : Hid (r.lay x = { r with ids := [x], sp := awayN r.sp x, h := fun _ => x }) := by unfold Hid Raw.lay; rw [if_pos HE.out]
  simp only [prH] at d2 d3 d4
  clear key hb1 hR f1 c0
  go_wp2
  go_returns
  refine ⟨rfl, by rw [HS.out]; exact KEY.out, ?_⟩
  have f2 : Fr (FCk A b) w w1 := HF.out.mono (fun i q => .inr q)
  exact ((f2.setCell (p := ⟨b, 2, none⟩) (.inl (.inl rfl)) _).setCell (p := ⟨b, 3, none⟩) (.inl (.inl rfl)) _).setCell (p := ⟨b, 4, none⟩) (.inl (.inl rfl)) _
set_option maxRecDepth 100000 in
set_option maxHeartbeats 1000000 in
theorem ck_lay1 (h : PC w b n A r) {x : Nat} (hx : x < 2 * n) (hni : ¬ x ∈ r.ids) (ho : r.h 0 ∈ r.ids) : Calls Try.prog 60 #[.pointer (some ⟨b, 0, none⟩), .int .i64 x] w fun e w' => e = .returned (.tuple #[]) ∧ PC w' b n A (r.lay x) ∧ Fr (FCk A b) w w' := by
  have hne : ¬ r.ids = [] := fun e => by rw [e] at ho; cases ho
  have hl0 : 0 < r.ids.length := by cases e : r.ids with | nil => exact (hne e).elim | cons a l => simp
  have HL := Lib.hid (ck_len h)
  have c0 : w.cell? ⟨b, 0, none⟩ = some (.pointer (some ⟨A.rb, 0, none⟩)) := h.c 0 (by omega)
  have c2 : w.cell? ⟨b, 2, none⟩ = some (.int .i64 (r.h 0 : Nat)) := h.hand (j := 0) (by omega)
  have e1 : rowIx [r.ids, r.sp] (r.h 0) = some 0 := by rw [rowIx2, if_pos ho]
  have hxo : ¬ x = r.h 0 := fun e => hni (e ▸ ho)
  have HB := Lib.hid (fun W (g : Fr NoF w W) => before_yes (h.rr.fr g (fun _ _ q => q)) x (r.h 0) 0 hx e1 hxo)
  have HK : Hid (∀ w1 W, Fr NoF w W → RR w1 A.rb (2 * n) 2 (befL [r.ids, r.sp] x (r.h 0)) A.FR → Fr A.FR W w1 → PC w1 b n A (r.lay x) ∧ Fr (FCk A b) w w1) := by
    intro w1 W g hR f1
    have hp := h.fr0 g
    have hb2 : befL [r.ids, r.sp] x (r.h 0) = [insL r.ids x (r.h 0), awayN r.sp x] := by
      unfold befL
      rw [e1]
      simp only
      rw [outL2 h.lists.2.2.2.2 x, awayN_not hni]
      rfl
    rw [hb2] at hR
    have := hp.rows f1 hR
    exact ⟨by unfold Raw.lay; rw [if_neg hne]; exact this, (g.mono (fun _ q => q.elim)).trans f1 (fun i q => .inl (.inr q))⟩
  have HN : Hid (r.ids.length = 0 → False) := fun e => by omega
  clear h hni ho hne e1 hxo hx
  generalize r.ids.length = len at *
  generalize r.h 0 = h0 at *
  have hd : ((len : Int) == 0) = false := by simp; omega
  go_enter Try.func60, Try.ntmps60
  go_wp2_with (go_at_call 38; refine HL.out.mono ?_; rintro e w' ⟨rfl, rfl⟩)
  go_region_with (go_at_call 74; (with_reducible refine (HB.out _ (by repeat (first | exact Fr.refl NoF _ | apply Fr.drew | apply Fr.drewN))).mono ?_); rintro e w1 ⟨rfl, hR, f1⟩; have KEY := Lib.hid (HK.out _ _ (by repeat (first | exact Fr.refl NoF _ | apply Fr.drew | apply Fr.drewN)) hR f1); clear hR f1)
  all_goals go_wp2
  all_goals go_returns
  all_goals exact ⟨rfl, KEY.out⟩
/-- What may be laid: the hot hand is at an entry, if there is one. -/
theorem ck_lay (h : PC w b n A r) {x : Nat} (hx : x < 2 * n) (hni : ¬ x ∈ r.ids) (ho : r.ids = [] ∨ r.h 0 ∈ r.ids) : Calls Try.prog 60 #[.pointer (some ⟨b, 0, none⟩), .int .i64 x] w fun e w' => e = .returned (.tuple #[]) ∧ PC w' b n A (r.lay x) ∧ Fr (FCk A b) w w' := by
  rcases ho with ho | ho
  · exact ck_lay0 h hx ho
  · exact ck_lay1 h hx hni ho
theorem ck_again (h : PC w b n A r) {x : Nat} (hx : x ∈ r.ids) (ho : (r.leave x).ids = [] ∨ (r.leave x).h 0 ∈ (r.leave x).ids) : Calls Try.prog 64 #[.pointer (some ⟨b, 0, none⟩), .int .i64 x] w fun e w' => e = .returned (.tuple #[]) ∧ PC w' b n A ((r.leave x).lay x) ∧ Fr (FCk A b) w w' := by
  have HA := Lib.hid (ck_leave h hx)
  have HB : Hid (∀ w1, PC w1 b n A (r.leave x) → Calls Try.prog 60 #[.pointer (some ⟨b, 0, none⟩), .int .i64 x] w1 fun e w' => e = .returned (.tuple #[]) ∧ PC w' b n A ((r.leave x).lay x) ∧ Fr (FCk A b) w1 w') := fun w1 h1 =>
    ck_lay h1 (h.lists.2.2.1 x hx) (by simp [Raw.leave, awayN]) ho
  clear h hx ho
  go_enter Try.func64, Try.ntmps64
  go_wp2_with fail
  refine HA.out.mono ?_
  rintro e w1 ⟨rfl, h1, f1⟩
  have H1 := Lib.hid h1
  have F1 := Lib.hid f1
  clear h1 f1 HA
  go_wp2_with fail
  refine (HB.out _ H1.out).mono ?_
  rintro e w2 ⟨rfl, h2, f2⟩
  have H2 := Lib.hid (And.intro h2 (F1.out.trans f2 (fun i q => .inl q)))
  clear h2 f2
  go_wp2
  go_returns
  exact ⟨rfl, H2.out⟩
set_option maxHeartbeats 1000000 in
theorem ck_drop (h : PC w b n A r) {x : Nat} (hx : x ∈ r.ids) : Calls Try.prog 61 #[.pointer (some ⟨b, 0, none⟩), .int .i64 x] w fun e w' => e = .returned (.tuple #[]) ∧ PC w' b n A (r.drop x) ∧ Fr (FCk A b) w w' := by
  have HA := Lib.hid (ck_leave h hx)
  have hx2 := h.lists.2.2.1 x hx
  have HD : Hid (∀ x ∈ r.ids, ¬ x ∈ r.sp) := h.lists.2.2.2.2
  have HX := Lib.hid hx
  clear h hx
  go_enter Try.func61, Try.ntmps61
  go_wp2_with fail
  refine HA.out.mono ?_
  rintro e w1 ⟨rfl, h1, f1⟩
  have H1 := Lib.hid h1
  have F1 := Lib.hid f1
  have c0 : w1.cell? ⟨b, 0, none⟩ = some (.pointer (some ⟨A.rb, 0, none⟩)) := h1.c 0 (by omega)
  have HB := Lib.hid (back_yes h1.rr 1 x (by omega) hx2)
  clear h1 f1 HA
  go_wp2_with fail
  refine HB.out.mono ?_
  clear HB
  rintro e w2 ⟨rfl, hR, f2⟩
  have key : PC w2 b n A (r.drop x) ∧ Fr (FCk A b) w w2 := by
    have hp := H1.out
    have e1 := putL2_1 (l := (r.leave x).ids) (m := (r.leave x).sp) hp.lists.2.2.2.2 x
    rw [e1] at hR
    have e2 : awayN (r.leave x).sp x = r.sp := awayN_not (HD.out x HX.out)
    have e3 : awayN (r.leave x).ids x = (r.leave x).ids := awayN_not (by simp [Raw.leave, awayN])
    rw [e2, e3] at hR
    exact ⟨hp.rows f2 hR, F1.out.trans f2 (fun i q => .inl (.inr q))⟩
  have KEY := Lib.hid key
  clear hR f2 key
  go_wp2
  go_returns
  exact ⟨rfl, KEY.out⟩
def enV (y : En) (u : Bool) : Value := .agg #[.int .u32 (y.pg : Nat), .int .i64 y.fr, .bool y.hot, .bool y.ref, .bool y.test, .bool u]
end
end Go.Proofs.Ytoainbdkhhblbaa

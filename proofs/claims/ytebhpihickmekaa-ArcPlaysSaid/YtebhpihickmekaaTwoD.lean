/-
  2Q: Access, eldest, goes, Victim.
-/
import Derived.Test.YtebhpihickmekaaTwoC
import Derived.Deep.QuietTactic
import Derived.BigQuiet
import Derived.Deep.RegionWith
namespace Go.Proofs.Ytebhpihickmekaa
open Go.RowKit Go.Maps
set_option linter.unusedVariables false

def T6.come (t : T6) (f id : Nat) : T6 := if id ∈ t.gh then ⟨t.nw, t.mn ++ [f], upd t.page f id, t.ev, awayN t.gh id⟩ else ⟨t.nw ++ [f], t.mn, upd t.page f id, t.ev, t.gh⟩
def T6.acc (t : T6) (f id : Nat) : T6 := if f ∈ t.nw then t else if f ∈ t.mn then ⟨t.nw, awayN t.mn f ++ [f], t.page, t.ev, t.gh⟩ else t.come f id
def T6.goes (inn : Nat) (t : T6) : Option Nat := if inn < t.nw.length then (t.nw.find? t.ev).or (t.mn.find? t.ev) else (t.mn.find? t.ev).or (t.nw.find? t.ev)
def T6.gone (out : Nat) (t : T6) (f : Nat) : T6 := (if f ∈ t.nw then (⟨t.nw, t.mn, t.page, t.ev, cutOld out (t.gh ++ [t.page f])⟩ : T6) else t).rem f
/-- Pages are numbers; no page is in two frames; none that is in a frame is remembered. -/
structure TI (t : T6) : Prop where
  u : ∀ f, f ∈ t.nw ∨ f ∈ t.mn → isU32 (t.page f) ∧ ¬ t.page f ∈ t.gh
  ij : ∀ f g, (f ∈ t.nw ∨ f ∈ t.mn) → (g ∈ t.nw ∨ g ∈ t.mn) → t.page f = t.page g → f = g
theorem cnt_snoc (l : List Nat) (ev : Nat → Bool) (f : Nat) (h : ev f = false) : cntL (l ++ [f]) ev = cntL l ev := by simp [cntL, h]

section
variable {w w' : World} {b n inn out : Nat} {A : TA} {t : T6} {tk sp : List Nat} {gp : Nat → Nat}
/-- A page in a frame, and the frame in a row. -/
theorem TC.laid (h : TC w b n inn out A t tk sp gp) {f id : Nat} (hf : f < n) (hm : ¬ (f ∈ t.nw ∨ f ∈ t.mn)) {gh' : List Nat} {tk' sp' : List Nat} {gp' : Nat → Nat} {w1 w2 : World} (hg : GR w1 A.gr A.gpb A.mb out tk' sp' gp' gh' A.FG) (f1 : Fr (FGm A.FG A.gpb A.mb) w w1) {nw' mn' : List Nat}
    (hR : RR w2 A.rb n 2 [nw', mn'] A.FR) (f2 : Fr A.FR (w1.setCell ⟨A.pb, f, none⟩ (.int .u32 id)) w2) (hc : cntL (nw' ++ mn') t.ev = cntL (t.nw ++ t.mn) t.ev) (hou : ∀ x, x ∈ t.nw ∨ x ∈ t.mn → x ∈ nw' ∨ x ∈ mn') :
    TC w2 b n inn out A ⟨nw', mn', upd t.page f id, t.ev, gh'⟩ tk' sp' gp' ∧ Fr (FT A b) w w2 := by
  obtain ⟨n1, n2, n3, n4, n5, n6, n7, n8, n9, n10⟩ := h.lb.ne
  have fs : Fr (fun i => i = A.pb) w1 (w1.setCell ⟨A.pb, f, none⟩ (.int .u32 id)) := (Fr.refl (fun i => i = A.pb) w1).setCell (p := ⟨A.pb, f, none⟩) (.inl rfl) _
  refine ⟨⟨?_, hR, ?_, ((h.be.fr f1 n9).fr fs (fun e => n3 e.symm)).fr f2 n6, (hg.fr fs (fun i hi e => n8 (e ▸ .inl hi)) (fun e => n8 (.inr (.inl e.symm))) (fun e => n8 (.inr (.inr e.symm)))).fr f2 (fun i hi q => n10 i q (.inl hi)) (fun q => n10 _ q (.inr (.inl rfl))) (fun q => n10 _ q (.inr (.inr rfl))), h.lb, fun x hx => hou x (h.ou x hx), h.hn, h.hi⟩, ?_⟩
  · show Blk w2 b 8 (twH A n inn out (cntL (nw' ++ mn') t.ev))
    rw [hc]
    exact ((h.hd.fr f1 n7).fr fs n1).fr f2 n4
  · rw [← uN_set]
    exact ((h.pg.fr f1 n8).set _ _).fr f2 n5
  · refine ((f1.mono (fun i q => ?_)).trans fs (fun i q => .inl (.inr (.inl q)))).trans f2 (fun i q => .inl (.inr (.inr (.inr (.inl q)))))
    exact .inr (.inr (.inr (.inr q)))

theorem find_ix (l : List Nat) (ev : Nat → Bool) : ∃ j, j ≤ l.length ∧ l.find? ev = l[j]? ∧ (∀ (i x : Nat), i < j → l[i]? = some x → ev x = false) ∧ ∀ x, l[j]? = some x → ev x = true := by
  induction l with
  | nil => exact ⟨0, by simp, by simp, fun i x hi => by omega, fun x hx => by simp at hx⟩
  | cons a l ih =>
    by_cases h : ev a = true
    · exact ⟨0, by simp, by simp [h], fun i x hi => by omega, fun x hx => by simp at hx; rw [← hx]; exact h⟩
    · obtain ⟨j, h1, h2, h3, h4⟩ := ih
      refine ⟨j + 1, by simp; omega, by simp [h, h2], fun i x hi hx => ?_, fun x hx => h4 x (by simpa using hx)⟩
      cases i with
      | zero => simp at hx; rw [← hx]; simpa using h
      | succ i => exact h3 i x (by omega) (by simpa using hx)

end
end Go.Proofs.Ytebhpihickmekaa

/-
  twoq's remembered pages: forgetEldest, remember, all.
-/
import Derived.Test.YtebhpihickmekaaTwoA
import Derived.Test.YtebhpihickmekaaCut
import Derived.OwnWalk
namespace Go.Proofs.Ytebhpihickmekaa
open Go.RowKit Go.Maps
set_option linter.unusedVariables false

section
variable {w w' : World} {b gr gpb mb out : Nat} {tk sp : List Nat} {gp : Nat → Nat} {gh : List Nat} {FG : Nat → Prop}
theorem first_0 (h : GR w gr gpb mb out tk sp gp gh FG) : Calls Try.prog 55 #[.pointer (some ⟨gr, 0, none⟩), .int .i64 0] w fun e w' => e = .returned (.int .i64 (ixI tk.head?)) ∧ ∃ d, w.drewN d = w' := First_all h.rr 0
theorem first_1 (h : GR w gr gpb mb out tk sp gp gh FG) : Calls Try.prog 55 #[.pointer (some ⟨gr, 0, none⟩), .int .i64 1] w fun e w' => e = .returned (.int .i64 (ixI sp.head?)) ∧ ∃ d, w.drewN d = w' := First_all h.rr 1

/-- A page is laid into a spare place. -/
theorem GR.laid (h : GR w gr gpb mb out tk sp gp gh FG) {p x : Nat} (hp : p ∈ sp) (hx : isU32 x) (hm : ¬ x ∈ gh) {w1 w2 : World} (hR : RR w1 gr out 2 (putL [tk, sp] 0 p false) FG) (f1 : Fr FG w w1)
    (hM : MpN Try.prog 34 3 .u32 .i64 w2 mb (if (mOf tk gp (x : Int)).isSome then tk.length else tk.length + 1) (updI (mOf tk gp) (x : Int) (some (p : Int)))) (f2 : Fr (fun i => i = mb) (w1.setCell ⟨gpb, p, none⟩ (.int .u32 (x : Nat))) w2) :
    GR w2 gr gpb mb out (tk ++ [p]) (awayN sp p) (upd gp p x) (gh ++ [x]) FG ∧ Fr (FGm FG gpb mb) w w2 := by
  have hr2 := h.rr.row2
  have hpt : ¬ p ∈ tk := fun q => hr2.2.2.2.2 p q hp
  rw [putL2_0 hr2.2.2.2.2, awayN_not hpt] at hR
  have hmo := mOf_none (tk := tk) (gp := gp) (x := x) (h.hg ▸ hm)
  rw [hmo] at hM
  have hmap : (tk ++ [p]).map (upd gp p x) = gh ++ [x] := by
    rw [List.map_append, h.hg]
    congr 1
    · apply List.map_congr_left
      intro q hq
      rw [upd_other]
      rintro rfl; exact hpt hq
    · simp [upd_same]
  have hnd : (gh ++ [x]).Nodup := by
    rw [List.nodup_append]
    refine ⟨h.nd, by simp, fun y hy z hz e => ?_⟩
    rw [List.mem_singleton.1 hz] at e
    exact hm (e ▸ hy)
  have e1 : updI (mOf tk gp) (x : Int) (some (p : Int)) = mOf (tk ++ [p]) (upd gp p x) := by
    refine mOf_eq (by rw [hmap]; exact hnd) ?_ ?_
    · intro q hq
      rcases List.mem_append.1 hq with hq1 | hq1
      · have hqp : ¬ q = p := fun e => hpt (e ▸ hq1)
        rw [upd_other _ _ hqp]
        have : ¬ ((gp q : Nat) : Int) = (x : Int) := fun e => hm (by rw [h.hg]; exact List.mem_map.2 ⟨q, hq1, by omega⟩)
        rw [updI_other _ _ this]
        exact mOf_some (h.hg ▸ h.nd) hq1
      · rw [List.mem_singleton.1 hq1, upd_same, updI_same]
    · intro z hz
      have hzx : ¬ z = (x : Int) := fun e => hz p (by simp) (by rw [upd_same, e])
      rw [updI_other _ _ hzx]
      unfold mOf
      rw [Option.map_eq_none_iff, List.find?_eq_none]
      intro q hq e2
      have e2 : ((gp q : Nat) : Int) = z := by simpa using e2
      have hqp : ¬ q = p := by rintro rfl; exact hpt hq
      exact hz q (by simp [hq]) (by rw [upd_other _ _ hqp]; exact e2)
  rw [e1] at hM
  have fs : Fr (fun i => i = gpb) w1 (w1.setCell ⟨gpb, p, none⟩ (.int .u32 (x : Nat))) := (Fr.refl (fun i => i = gpb) w1).setCell (p := ⟨gpb, p, none⟩) (.inl rfl) _
  refine ⟨⟨(hR.fr fs (fun i hi e => h.d1 (e ▸ hi))).fr f2 (fun i hi e => h.d2 (e ▸ hi)), ?_, ?_, hmap.symm, hnd, ?_, ?_, h.hn, h.d1, h.d2, h.d3⟩, ((f1.mono (fun i q => .inl q)).trans fs (fun i q => .inl (.inr (.inl q)))).trans f2 (fun i q => .inl (.inr (.inr q)))⟩
  · rw [← uN_set]
    exact ((h.pg.fr f1 h.d1).set _ _).fr f2 h.d3
  · rw [List.length_append]; exact hM
  · have := awayN_len hr2.2.1 hp
    have := h.tl
    rw [List.length_append]; simp; omega
  · intro y hy
    rcases List.mem_append.1 hy with q | q
    · exact h.lt y q
    · rw [List.mem_singleton.1 q]; exact hx

/-- What remembering leaves. -/
def Remd (w : World) (gr gpb mb out : Nat) (gh' : List Nat) (FG : Nat → Prop) (w' : World) : Prop := ∃ tk' sp' gp', GR w' gr gpb mb out tk' sp' gp' gh' FG ∧ Fr (FGm FG gpb mb) w w'

end
end Go.Proofs.Ytebhpihickmekaa

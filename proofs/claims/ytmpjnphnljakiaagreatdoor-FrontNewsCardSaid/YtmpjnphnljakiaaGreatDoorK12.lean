/-
  container/heap: Push, Pop, Fix, Remove.
-/
import Derived.Test.YtmpjnphnljakiaaGreatDoorK11
namespace Go.Proofs.YtmpjnphnljakiaaGreatDoor
open Go.RowKit
set_option linter.unusedVariables false

def popF {α : Type} (lt : α → α → Bool) (a : Nat → α) (n : Nat) : Nat → α := if n = 0 then a else (downF lt n (swp a 0 n) 0).1
def fixF {α : Type} (lt : α → α → Bool) (a : Nat → α) (n i : Nat) : Nat → α := if i < (downF lt n a i).2 then (downF lt n a i).1 else upF lt (downF lt n a i).1 i
def remF {α : Type} (lt : α → α → Bool) (a : Nat → α) (n i : Nat) : Nat → α := if n = i then a else fixF lt (swp a i n) n i

theorem down_zero (p : Addr) (w : World) (i : Nat) (hi : i < 1000000) : Calls Tryz.prog 80 #[.iface 116 (.pointer (some p)), .int .i64 i, .int .i64 (0 : Nat)] w fun e w' => e = .returned (.bool false) ∧ w = w' := by
  go_enter Tryz.func80, Tryz.ntmps80
  go_wp2
  go_loopg [7] 1 (fun g v wr => g = 1 ∧ v = .int .i64 i ∧ w = wr)
  case atStart => exact ⟨rfl, rfl, rfl⟩
  case round =>
    obtain ⟨rfl, rfl, rfl⟩ := hrel
    go_wp2
    go_returns
    exact ⟨by simp, rfl⟩

section
variable {α : Type} {lt : α → α → Bool} {HR : World → (Nat → α) → Nat → (Nat → Prop) → Prop} {p : Addr} {enc : α → Value} {okP : (Nat → α) → Nat → α → Prop} (S : HeapSys lt HR p enc okP) {w : World} {a : Nat → α} {n : Nat} {F : Nat → Prop}
include S
set_option maxRecDepth 100000 in
theorem heap_push (h : HR w a n F) {t : α} (ht : okP a n t) : Calls Tryz.prog 68 #[.iface 116 (.pointer (some p)), enc t] w fun e w' => e = .returned (.tuple #[]) ∧ ∃ F', HR w' (upF lt (upd a n t) n) (n + 1) F' ∧ Fr F w w' ∧ ∀ i, F' i → F i ∨ w.heap.size ≤ i := by
  obtain ⟨rv, hm, HC⟩ := S.push h ht
  have HCL := Lib.hid HC
  have HS := Lib.hid S
  have hn := S.small h
  clear HC S h ht
  generalize enc t = et at *
  go_enter Tryz.func68, Tryz.ntmps68
  go_wp2_with fail
  refine HCL.out.mono ?_
  clear HCL hm
  rintro e w1 ⟨rfl, F1, hr1, hf1, hF1⟩
  obtain ⟨rv2, hm2, HC2⟩ := HS.out.len hr1
  have HCL2 := Lib.hid HC2
  have HR1 := Lib.hid (And.intro hr1 (And.intro hf1 hF1))
  clear HC2 hr1 hf1 hF1
  go_wp2_with fail
  refine HCL2.out.mono ?_
  clear HCL2 hm2
  rintro e w2 ⟨rfl, hf2⟩
  have HU := Lib.hid (up_walk HS.out (HS.out.fr HR1.out.1 hf2 (fun _ _ q => q)) (j := n) (by omega))
  have HF2 := Lib.hid hf2
  clear hf2
  have e1 : ((n + 1 : Nat) : Int) - 1 = (n : Int) := by omega
  go_wp2_with fail
  refine HU.out.mono ?_
  clear HU
  rintro e w3 ⟨rfl, hr3, hf3⟩
  have HR3 := Lib.hid (And.intro hr3 hf3)
  clear hr3 hf3
  go_wp2
  go_returns
  refine ⟨rfl, F1, HR3.out.1, (HR1.out.2.1.trans HF2.out (fun _ q => q.elim)).trans HR3.out.2 (fun i q => HR1.out.2.2 i q), HR1.out.2.2⟩

set_option maxRecDepth 100000 in
theorem heap_pop (h : HR w a (n + 1) F) : Calls Tryz.prog 60 #[.iface 116 (.pointer (some p))] w fun e w' => e = .returned (enc (a 0)) ∧ HR w' (popF lt a n) n F ∧ Fr F w w' := by
  have hn := S.small h
  obtain ⟨rv, hm, HC⟩ := S.len h
  have HCL := Lib.hid HC
  have HS := Lib.hid S
  have HH := Lib.hid h
  have e1 : ((n + 1 : Nat) : Int) - 1 = (n : Int) := by omega
  clear HC S h
  go_enter Tryz.func60, Tryz.ntmps60
  go_wp2_with fail
  refine HCL.out.mono ?_
  clear HCL hm
  rintro e w1 ⟨rfl, hf1⟩
  obtain ⟨rv2, hm2, HC2⟩ := HS.out.swap (HS.out.fr HH.out hf1 (fun _ _ q => q)) (i := 0) (j := n) (by omega) (by omega)
  have HCL2 : Hid (Calls Tryz.prog 127 #[rv2, .int .i64 0, .int .i64 n] w1 fun e w'' => e = .returned (.tuple #[]) ∧ HR w'' (swp a 0 n) (n + 1) F ∧ Fr F w1 w'') := HC2
  have HF1 := Lib.hid hf1
  clear HC2 hf1
  go_wp2_with fail
  refine HCL2.out.mono ?_
  clear HCL2 hm2
  rintro e w2 ⟨rfl, hr2, hf2⟩
  have HD : Hid (∃ q : Bool, Calls Tryz.prog 80 #[.iface 116 (.pointer (some p)), .int .i64 0, .int .i64 n] w2 fun e w' => e = .returned (.bool q) ∧ HR w' (popF lt a n) (n + 1) F ∧ Fr F w2 w') := by
    unfold Hid popF
    by_cases h0 : n = 0
    · subst h0
      rw [if_pos rfl]
      have hsw : swp a 0 0 = a := by funext k; unfold swp; by_cases e : k = 0 <;> simp [e]
      rw [hsw] at hr2
      exact ⟨_, (down_zero p w2 0 (by omega)).mono fun e w' ⟨he, hw⟩ => ⟨he, hw ▸ hr2, hw ▸ Fr.refl _ _⟩⟩
    · rw [if_neg h0]
      exact ⟨_, (down_walk HS.out hr2 (n := n) (by omega) (i := 0) (by omega)).mono fun e w' ⟨he, h1, h2⟩ => ⟨he, h1, h2⟩⟩
  have HF2 := Lib.hid ((HF1.out.mono (fun _ q => q.elim)).trans hf2 (fun i q => .inl q))
  clear hr2 hf2
  obtain ⟨q, hd⟩ := HD.out
  have HD2 := Lib.hid hd
  clear hd HD
  go_wp2_with fail
  refine HD2.out.mono ?_
  clear HD2
  rintro e w3 ⟨rfl, hr3, hf3⟩
  obtain ⟨rv4, hm4, HC4⟩ := HS.out.pop hr3
  have HE : Hid (popF lt a n n = a 0) := by
    unfold Hid popF
    split
    · rename_i q; rw [q]
    · rw [down_out lt n (swp a 0 n) 0 (by omega) (by omega) n (Nat.le_refl _)]
      unfold swp; split
      · rename_i q; rw [q]
      · rw [if_pos rfl]
  have HCL4 := Lib.hid HC4
  have HF3 := Lib.hid (HF2.out.trans hf3 (fun i q => .inl q))
  clear HC4 hr3 hf3
  go_wp2_with fail
  refine HCL4.out.mono ?_
  clear HCL4 hm4
  rintro e w4 ⟨rfl, hr4, hf4⟩
  have HR4 := Lib.hid (And.intro hr4 (HF3.out.trans hf4 (fun i q => .inl q)))
  clear hr4 hf4
  rw [HE.out]
  generalize hET : enc (a 0) = et
  have HET := Lib.hid hET
  clear hET
  go_wp2
  go_returns
  exact ⟨by rw [HET.out]; rfl, HR4.out⟩
end
end Go.Proofs.YtmpjnphnljakiaaGreatDoor

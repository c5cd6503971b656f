/-
  container/heap: Push, Pop, Fix, Remove.
-/
import Derived.Test.YtpebonpibhdfoaaHeapW
namespace Go.Proofs.Ytpebonpibhdfoaa
open Go.RowKit
set_option linter.unusedVariables false

def popF {α : Type} (lt : α → α → Bool) (a : Nat → α) (n : Nat) : Nat → α := if n = 0 then a else (downF lt n (swp a 0 n) 0).1
def fixF {α : Type} (lt : α → α → Bool) (a : Nat → α) (n i : Nat) : Nat → α := if i < (downF lt n a i).2 then (downF lt n a i).1 else upF lt (downF lt n a i).1 i
def remF {α : Type} (lt : α → α → Bool) (a : Nat → α) (n i : Nat) : Nat → α := if n = i then a else fixF lt (swp a i n) n i

theorem down_zero (p : Addr) (w : World) (i : Nat) (hi : i < 1000000) : Calls Try.prog 24 #[.iface 56 (.pointer (some p)), .int .i64 i, .int .i64 (0 : Nat)] w fun e w' => e = .returned (.bool false) ∧ w = w' := by
  go_enter Try.func24, Try.ntmps24
  go_wp2
  go_loopg [7] 1 (fun g v wr => g = 1 ∧ v = .int .i64 i ∧ w = wr)
  case atStart => exact ⟨rfl, rfl, rfl⟩
  case round =>
    obtain ⟨rfl, rfl, rfl⟩ := hrel
    go_wp2
    go_returns
    exact ⟨by simp, rfl⟩

section
variable {α : Type} {lt : α → α → Bool} {HR : World → (Nat → α) → Nat → (Nat → Prop) → Prop} {p : Addr} {enc : α → Value} {okP : (Nat → α) → Nat → α → Prop} (S : HeapSys lt HR p enc okP) {w : World} {a : Nat → α} {n : Nat} {F : Nat → Prop}
include S
set_option maxRecDepth 100000 in
theorem heap_push (h : HR w a n F) {t : α} (ht : okP a n t) : Calls Try.prog 14 #[.iface 56 (.pointer (some p)), enc t] w fun e w' => e = .returned (.tuple #[]) ∧ ∃ F', HR w' (upF lt (upd a n t) n) (n + 1) F' ∧ Fr F w w' ∧ ∀ i, F' i → F i ∨ w.heap.size ≤ i := by
  obtain ⟨rv, hm, HC⟩ := S.push h ht
  have HCL := Lib.hid HC
  have HS := Lib.hid S
  have hn := S.small h
  clear HC S h ht
  generalize enc t = et at *
  go_enter Try.func14, Try.ntmps14
  go_wp2_with fail
  refine HCL.out.mono ?_
  clear HCL hm
  rintro e w1 ⟨rfl, F1, hr1, hf1, hF1⟩
  obtain ⟨rv2, hm2, HC2⟩ := HS.out.len hr1
  have HCL2 := Lib.hid HC2
  have HR1 := Lib.hid (And.intro hr1 (And.intro hf1 hF1))
  clear HC2 hr1 hf1 hF1
  go_wp2_with fail
  refine HCL2.out.mono ?_
  clear HCL2 hm2
  rintro e w2 ⟨rfl, hf2⟩
  have HU := Lib.hid (up_walk HS.out (HS.out.fr HR1.out.1 hf2 (fun _ _ q => q)) (j := n) (by omega))
  have HF2 := Lib.hid hf2
  clear hf2
  have e1 : ((n + 1 : Nat) : Int) - 1 = (n : Int) := by omega
  go_wp2_with fail
  refine HU.out.mono ?_
  clear HU
  rintro e w3 ⟨rfl, hr3, hf3⟩
  have HR3 := Lib.hid (And.intro hr3 hf3)
  clear hr3 hf3
  go_wp2
  go_returns
  refine ⟨rfl, F1, HR3.out.1, (HR1.out.2.1.trans HF2.out (fun _ q => q.elim)).trans HR3.out.2 (fun i q => HR1.out.2.2 i q), HR1.out.2.2⟩

end
end Go.Proofs.Ytpebonpibhdfoaa

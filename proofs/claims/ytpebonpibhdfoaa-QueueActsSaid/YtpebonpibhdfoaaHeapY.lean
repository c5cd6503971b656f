/-
  container/heap: Fix, Remove.
-/
import Derived.Test.YtpebonpibhdfoaaHeapX
namespace Go.Proofs.Ytpebonpibhdfoaa
open Go.RowKit
set_option linter.unusedVariables false

section
variable {α : Type} {lt : α → α → Bool} {a : Nat → α} {n : Nat}
theorem fix_heap (O : Ord lt) {i : Nat} (hi : i < n) (h : GapHeap lt a n i) : IsHeap lt (fixF lt a n i) n := by
  have hd := h.down O n a i (by omega) hi
  have hg := down_ge lt n a i (by omega) hi
  unfold fixF
  by_cases q : i < (downF lt n a i).2
  · rw [if_pos q]; exact hd.2.1 (by omega)
  · rw [if_neg q, hg.2.1 (by omega)]
    exact UpHeap.up O a i hi (hd.1 (by omega))
theorem fix_mem {i : Nat} (hi : i < n) (t : α) : (∃ k, k < n ∧ fixF lt a n i k = t) ↔ ∃ k, k < n ∧ a k = t := by
  unfold fixF
  split
  · exact down_mem lt t n a i (by omega) hi
  · rw [up_mem lt t _ _ hi]; exact down_mem lt t n a i (by omega) hi
theorem fix_inj {β : Type} {f : α → β} {i : Nat} (hi : i < n) (h : InjF f a n) : InjF f (fixF lt a n i) n := by
  have hd := down_inj lt n a i (by omega) hi h
  unfold fixF
  split
  · exact hd
  · exact up_inj lt _ _ hi hd
theorem fix_out {i : Nat} (hi : i < n) : ∀ k, n ≤ k → fixF lt a n i k = a k := by
  intro k hk
  unfold fixF
  split
  · exact down_out lt n a i (by omega) hi k hk
  · rw [up_out lt _ _ hi k hk]; exact down_out lt n a i (by omega) hi k hk
/-- What stands at i has another value now: a heap but for that. -/
theorem gap_upd (O : Ord lt) (h : IsHeap lt a n) (i : Nat) (t : α) : GapHeap lt (upd a i t) n i := by
  refine ⟨fun k k1 k2 k3 k4 => ?_, fun k k1 k2 k3 k4 => ?_⟩
  · rw [upd_other _ _ k3, upd_other _ _ k4]; exact h k k1 k2
  · have hk : ¬ k = i := by unfold par at k3; omega
    have hp : ¬ par i = i := by unfold par; omega
    rw [upd_other _ _ hk, upd_other _ _ hp]
    have h1 := h k k1 k2
    rw [k3] at h1
    exact O.tr _ _ _ (h i k4 (by unfold par at k3; omega)) h1
/-- The last one is laid at i: a heap of one fewer, but for that. -/
theorem gap_swp (O : Ord lt) (h : IsHeap lt a (n + 1)) {i : Nat} (hi : i < n) : GapHeap lt (swp a i n) n i := by
  refine ⟨fun k k1 k2 k3 k4 => ?_, fun k k1 k2 k3 k4 => ?_⟩
  · have e1 : swp a i n k = a k := by unfold swp; rw [if_neg k3, if_neg (by omega)]
    have e2 : swp a i n (par k) = a (par k) := by unfold swp; rw [if_neg k4, if_neg (by unfold par; omega)]
    rw [e1, e2]; exact h k k1 (by omega)
  · have hk : ¬ k = i := by unfold par at k3; omega
    have e1 : swp a i n k = a k := by unfold swp; rw [if_neg hk, if_neg (by omega)]
    have e2 : swp a i n (par i) = a (par i) := by unfold swp; rw [if_neg (by unfold par; omega), if_neg (by unfold par; omega)]
    rw [e1, e2]
    have h1 := h k k1 (by omega)
    rw [k3] at h1
    exact O.tr _ _ _ (h i k4 (by omega)) h1
theorem rem_heap (O : Ord lt) {i : Nat} (hi : i ≤ n) (h : IsHeap lt a (n + 1)) : IsHeap lt (remF lt a n i) n := by
  unfold remF
  by_cases q : n = i
  · rw [if_pos q]; exact fun k k1 k2 => h k k1 (by omega)
  · rw [if_neg q]; exact fix_heap O (by omega) (gap_swp O h (by omega))
theorem rem_last {i : Nat} (hi : i ≤ n) : remF lt a n i n = a i := by
  unfold remF
  by_cases q : n = i
  · rw [if_pos q, q]
  · rw [if_neg q, fix_out (by omega) n (Nat.le_refl _)]
    unfold swp; rw [if_neg q, if_pos rfl]
theorem rem_inj1 {β : Type} {f : α → β} {i : Nat} (hi : i ≤ n) (h : InjF f a (n + 1)) : InjF f (swp a i n) (n + 1) := swp_inj (by omega) (by omega) h
theorem inj_less {β : Type} {f : α → β} (h : InjF f a (n + 1)) : InjF f a n := fun k m h1 h2 h3 => h k m (by omega) (by omega) h3
theorem rem_inj {β : Type} {f : α → β} {i : Nat} (hi : i ≤ n) (h : InjF f a (n + 1)) : InjF f (remF lt a n i) n := by
  unfold remF
  by_cases q : n = i
  · rw [if_pos q]; exact inj_less h
  · rw [if_neg q]; exact fix_inj (by omega) (inj_less (rem_inj1 hi h))
theorem rem_mem {β : Type} {f : α → β} {i : Nat} (hi : i ≤ n) (h : InjF f a (n + 1)) (t : α) : (∃ k, k < n ∧ remF lt a n i k = t) ↔ (∃ k, k < n + 1 ∧ a k = t) ∧ ¬ f t = f (a i) := by
  have key : (∃ k, k < n ∧ swp a i n k = t) ↔ (∃ k, k < n + 1 ∧ a k = t) ∧ ¬ f t = f (a i) := by
    constructor
    · rintro ⟨k, hk, rfl⟩
      by_cases e : k = i
      · have e1 : swp a i n k = a n := by unfold swp; rw [if_pos e]
        rw [e1]
        exact ⟨⟨n, by omega, rfl⟩, fun q => by have := h n i (by omega) (by omega) q; omega⟩
      · have e1 : swp a i n k = a k := by unfold swp; rw [if_neg e, if_neg (by omega)]
        rw [e1]
        exact ⟨⟨k, by omega, rfl⟩, fun q => e (h k i (by omega) (by omega) q)⟩
    · rintro ⟨⟨k, hk, rfl⟩, hne⟩
      have e : ¬ k = i := fun q => hne (by rw [q])
      by_cases e2 : k = n
      · subst e2
        exact ⟨i, by omega, by unfold swp; rw [if_pos rfl]⟩
      · exact ⟨k, by omega, by unfold swp; rw [if_neg e, if_neg e2]⟩
  unfold remF
  by_cases q : n = i
  · rw [if_pos q, ← key]
    subst q
    have e1 : ∀ k, k < n → swp a n n k = a k := fun k hk => by unfold swp; rw [if_neg (by omega), if_neg (by omega)]
    exact ⟨fun ⟨k, h1, h2⟩ => ⟨k, h1, by rw [e1 k h1]; exact h2⟩, fun ⟨k, h1, h2⟩ => ⟨k, h1, by rw [← e1 k h1]; exact h2⟩⟩
  · rw [if_neg q, ← key]; exact fix_mem (by omega) t
end

section
variable {α : Type} {lt : α → α → Bool} {HR : World → (Nat → α) → Nat → (Nat → Prop) → Prop} {p : Addr} {enc : α → Value} {okP : (Nat → α) → Nat → α → Prop} (S : HeapSys lt HR p enc okP) {w : World} {a : Nat → α} {n : Nat} {F : Nat → Prop}
include S
/-- down, and up if that didn't move it. -/
theorem down_up {m : Nat} (h : HR w a m F) (hnm : n ≤ m) {i : Nat} (hi : i < n) : ∃ b : Bool, Hid (Calls Try.prog 24 #[.iface 56 (.pointer (some p)), .int .i64 i, .int .i64 n] w fun e w' => e = .returned (.bool b) ∧ HR w' (downF lt n a i).1 m F ∧ Fr F w w') ∧
    (b = true → fixF lt a n i = (downF lt n a i).1) ∧ Hid (b = false → ∀ w', HR w' (downF lt n a i).1 m F → Calls Try.prog 23 #[.iface 56 (.pointer (some p)), .int .i64 i] w' fun e w'' => e = .returned (.tuple #[]) ∧ HR w'' (fixF lt a n i) m F ∧ Fr F w' w'') := by
  refine ⟨decide (i < (downF lt n a i).2), down_walk S h hnm hi, fun q => ?_, fun q w' hr => ?_⟩
  · unfold fixF; rw [if_pos (by simpa using q)]
  · have e : fixF lt a n i = upF lt (downF lt n a i).1 i := by unfold fixF; rw [if_neg (by simpa using q)]
    rw [e]
    exact up_walk S hr (by omega)
set_option maxRecDepth 100000 in
theorem heap_fix (h : HR w a n F) {i : Nat} (hi : i < n) : Calls Try.prog 15 #[.iface 56 (.pointer (some p)), .int .i64 i] w fun e w' => e = .returned (.tuple #[]) ∧ HR w' (fixF lt a n i) n F ∧ Fr F w w' := by
  obtain ⟨rv, hm, HC⟩ := S.len h
  have HCL := Lib.hid HC
  have HS := Lib.hid S
  have HH := Lib.hid h
  clear HC S h
  go_enter Try.func15, Try.ntmps15
  go_wp2_with fail
  refine HCL.out.mono ?_
  clear HCL hm
  rintro e w1 ⟨rfl, hf1⟩
  obtain ⟨b, HD, hb1, HU⟩ := down_up HS.out (HS.out.fr HH.out hf1 (fun _ _ q => q)) (Nat.le_refl _) hi
  have HB := Lib.hid hb1
  have HF1 : Hid (Fr F w w1) := hf1.mono (fun _ q => q.elim)
  clear hb1 hf1
  cases b with
  | true =>
    go_wp2_with fail
    refine HD.out.mono ?_
    rintro e w2 ⟨rfl, hr2, hf2⟩
    have HR2 : Hid (HR w2 (fixF lt a n i) n F ∧ Fr F w w2) := ⟨by rw [HB.out (by first | rfl | trivial)]; exact hr2, HF1.out.trans hf2 (fun _ q => .inl q)⟩
    clear hr2 hf2 HD HU HB
    go_wp2
    go_returns
    exact ⟨rfl, HR2.out⟩
  | false =>
    go_wp2_with fail
    refine HD.out.mono ?_
    rintro e w2 ⟨rfl, hr2, hf2⟩
    have HU2 := Lib.hid (HU.out (by first | rfl | trivial) w2 hr2)
    have HF2 := Lib.hid (HF1.out.trans hf2 (fun _ q => .inl q))
    clear hr2 hf2 HD HU HB HF1
    go_wp2_with fail
    refine HU2.out.mono ?_
    rintro e w3 ⟨rfl, hr3, hf3⟩
    have HR3 := Lib.hid (And.intro hr3 (HF2.out.trans hf3 (fun _ q => .inl q)))
    clear hr3 hf3 HU2
    go_wp2
    go_returns
    exact ⟨rfl, HR3.out⟩
set_option maxRecDepth 100000 in
set_option maxHeartbeats 1000000 in
theorem heap_remove (h : HR w a (n + 1) F) {i : Nat} (hi : i ≤ n) : Calls Try.prog 18 #[.iface 56 (.pointer (some p)), .int .i64 i] w fun e w' => e = .returned (enc (a i)) ∧ HR w' (remF lt a n i) n F ∧ Fr F w w' := by
  obtain ⟨rv, hm, HC⟩ := S.len h
  have hn := S.small h
  have HCL := Lib.hid HC
  have HS := Lib.hid S
  have HH := Lib.hid h
  have HL : Hid (remF lt a n i n = a i) := rem_last hi
  have e1 : ((n + 1 : Nat) : Int) - 1 = (n : Int) := by omega
  have KP : Hid (∀ w1, HR w1 (remF lt a n i) (n + 1) F → ∃ rv, (method 218 56 (.pointer (some p)) "Pop").run Try.prog w1 = .ok (69, rv) w1 ∧ Calls Try.prog 69 #[rv] w1 fun e w' => e = .returned (enc (a i)) ∧ HR w' (remF lt a n i) n F ∧ Fr F w1 w') := by
    intro w1 h1
    rw [← HL.out]
    exact HS.out.pop h1
  clear HC S h HL
  generalize enc (a i) = et at KP ⊢
  by_cases hni : n = i
  · have HE : Hid (remF lt a n i = a) := by unfold Hid remF; rw [if_pos hni]
    have hb : ((n : Int) == (i : Int)) = true := by simp; omega
    have hb2 : ((n : Int) != (i : Int)) = false := by simp; omega
    obtain rfl : i = n := hni.symm
    go_enter Try.func18, Try.ntmps18
    go_wp2_with fail
    refine HCL.out.mono ?_
    clear HCL hm
    rintro e w1 ⟨rfl, hf1⟩
    obtain ⟨rv4, hm4, HC4⟩ := KP.out w1 (by rw [HE.out]; exact HS.out.fr HH.out hf1 (fun _ _ q => q))
    have HCL4 := Lib.hid HC4
    have HF1 : Hid (Fr F w w1) := hf1.mono (fun _ q => q.elim)
    clear HC4 hf1 KP HE
    go_wp2_with fail
    refine HCL4.out.mono ?_
    clear HCL4 hm4
    rintro e w4 ⟨rfl, hr4, hf4⟩
    have HR4 := Lib.hid (And.intro hr4 (HF1.out.trans hf4 (fun i q => .inl q)))
    clear hr4 hf4
    go_wp2
    go_returns
    exact ⟨rfl, HR4.out⟩
  · have HE : Hid (remF lt a n i = fixF lt (swp a i n) n i) := by unfold Hid remF; rw [if_neg hni]
    have hb : ((n : Int) == (i : Int)) = false := by simp; omega
    have hb2 : ((n : Int) != (i : Int)) = true := by simp; omega
    have hlt : i < n := by omega
    go_enter Try.func18, Try.ntmps18
    go_wp2_with fail
    refine HCL.out.mono ?_
    clear HCL hm
    rintro e w1 ⟨rfl, hf1⟩
    obtain ⟨rv2, hm2, HC2⟩ := HS.out.swap (HS.out.fr HH.out hf1 (fun _ _ q => q)) (i := i) (j := n) (by omega) (by omega)
    have HCL2 := Lib.hid HC2
    have HF1 : Hid (Fr F w w1) := hf1.mono (fun _ q => q.elim)
    clear HC2 hf1
    go_wp2_with fail
    refine HCL2.out.mono ?_
    clear HCL2 hm2
    rintro e w2 ⟨rfl, hr2, hf2⟩
    obtain ⟨b, HD, hb1, HU⟩ := down_up HS.out hr2 (n := n) (by omega) hlt
    have HB := Lib.hid hb1
    have HF2 := Lib.hid (HF1.out.trans hf2 (fun _ q => .inl q))
    clear hb1 hf2 hr2 HF1
    cases b with
    | true =>
      go_wp2_with fail
      refine HD.out.mono ?_
      rintro e w3 ⟨rfl, hr3, hf3⟩
      obtain ⟨rv4, hm4, HC4⟩ := KP.out w3 (by rw [HE.out, HB.out (by first | rfl | trivial)]; exact hr3)
      have HCL4 := Lib.hid HC4
      have HF3 := Lib.hid (HF2.out.trans hf3 (fun _ q => .inl q))
      clear HC4 hf3 hr3 KP HE HD HU HB HF2
      go_wp2_with fail
      refine HCL4.out.mono ?_
      clear HCL4 hm4
      rintro e w4 ⟨rfl, hr4, hf4⟩
      have HR4 := Lib.hid (And.intro hr4 (HF3.out.trans hf4 (fun i q => .inl q)))
      clear hr4 hf4
      go_wp2
      go_returns
      exact ⟨rfl, HR4.out⟩
    | false =>
      go_wp2_with fail
      refine HD.out.mono ?_
      rintro e w3 ⟨rfl, hr3, hf3⟩
      have HU2 := Lib.hid (HU.out (by first | rfl | trivial) w3 hr3)
      have HF3 := Lib.hid (HF2.out.trans hf3 (fun _ q => .inl q))
      clear hf3 hr3 HD HU HB HF2
      go_wp2_with fail
      refine HU2.out.mono ?_
      rintro e w5 ⟨rfl, hr5, hf5⟩
      obtain ⟨rv4, hm4, HC4⟩ := KP.out w5 (by rw [HE.out]; exact hr5)
      have HCL4 := Lib.hid HC4
      have HF5 := Lib.hid (HF3.out.trans hf5 (fun _ q => .inl q))
      clear HC4 hf5 hr5 KP HE HU2 HF3
      go_wp2_with fail
      refine HCL4.out.mono ?_
      clear HCL4 hm4
      rintro e w4 ⟨rfl, hr4, hf4⟩
      have HR4 := Lib.hid (And.intro hr4 (HF5.out.trans hf4 (fun i q => .inl q)))
      clear hr4 hf4
      go_wp2
      go_returns
      exact ⟨rfl, HR4.out⟩
end
end Go.Proofs.Ytpebonpibhdfoaa

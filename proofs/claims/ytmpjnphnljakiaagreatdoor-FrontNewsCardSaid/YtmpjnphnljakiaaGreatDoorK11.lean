/-
  container/heap over a row that something keeps in memory: up, down, Push, Pop, Fix, Remove: the walks. HeapSys: what is asked of that something.
-/
import Derived.Test.YtmpjnphnljakiaaGreatDoorK10
import Derived.Test.YtmpjnphnljakiaaGreatDoorK02
import Derived.Handy
import Derived.Deep.DeepMust
import Derived.Deep.LoopGhost
import Derived.Lib.Hide
import Derived.Test.YtmpjnphnljakiaaGreatDoorRows
namespace Go.Proofs.YtmpjnphnljakiaaGreatDoor
open Go.RowKit
set_option linter.unusedVariables false

structure HeapSys {α : Type} (lt : α → α → Bool) (HR : World → (Nat → α) → Nat → (Nat → Prop) → Prop) (p : Addr) (enc : α → Value) (okP : (Nat → α) → Nat → α → Prop) : Prop where
  fr : ∀ {w w' : World} {a : Nat → α} {n : Nat} {F G : Nat → Prop}, HR w a n F → Fr G w w' → (∀ i, F i → ¬ G i) → HR w' a n F
  bd : ∀ {w : World} {a : Nat → α} {n : Nat} {F : Nat → Prop}, HR w a n F → ∀ i, F i → i < w.heap.size
  small : ∀ {w : World} {a : Nat → α} {n : Nat} {F : Nat → Prop}, HR w a n F → n < 1000000
  len : ∀ {w : World} {a : Nat → α} {n : Nat} {F : Nat → Prop}, HR w a n F → ∃ rv, (method 273 116 (.pointer (some p)) "Len").run Tryz.prog w = .ok (125, rv) w ∧ Calls Tryz.prog 125 #[rv] w fun e w' => e = .returned (.int .i64 (n : Nat)) ∧ Fr NoF w w'
  less : ∀ {w : World} {a : Nat → α} {n : Nat} {F : Nat → Prop} {i j : Nat}, HR w a n F → i < n → j < n → ∃ rv, (method 273 116 (.pointer (some p)) "Less").run Tryz.prog w = .ok (126, rv) w ∧ Calls Tryz.prog 126 #[rv, .int .i64 i, .int .i64 j] w fun e w' => e = .returned (.bool (lt (a i) (a j))) ∧ Fr NoF w w'
  swap : ∀ {w : World} {a : Nat → α} {n : Nat} {F : Nat → Prop} {i j : Nat}, HR w a n F → i < n → j < n → ∃ rv, (method 273 116 (.pointer (some p)) "Swap").run Tryz.prog w = .ok (127, rv) w ∧ Calls Tryz.prog 127 #[rv, .int .i64 i, .int .i64 j] w fun e w' => e = .returned (.tuple #[]) ∧ HR w' (swp a i j) n F ∧ Fr F w w'
  push : ∀ {w : World} {a : Nat → α} {n : Nat} {F : Nat → Prop} {t : α}, HR w a n F → okP a n t → ∃ rv, (method 273 116 (.pointer (some p)) "Push").run Tryz.prog w = .ok (136, rv) w ∧ Calls Tryz.prog 136 #[rv, enc t] w fun e w' => e = .returned (.tuple #[]) ∧ ∃ F', HR w' (upd a n t) (n + 1) F' ∧ Fr F w w' ∧ ∀ i, F' i → F i ∨ w.heap.size ≤ i
  pop : ∀ {w : World} {a : Nat → α} {n : Nat} {F : Nat → Prop}, HR w a (n + 1) F → ∃ rv, (method 273 116 (.pointer (some p)) "Pop").run Tryz.prog w = .ok (135, rv) w ∧ Calls Tryz.prog 135 #[rv] w fun e w' => e = .returned (enc (a n)) ∧ HR w' a n F ∧ Fr F w w'

section
variable {α : Type} {lt : α → α → Bool} {HR : World → (Nat → α) → Nat → (Nat → Prop) → Prop} {p : Addr} {enc : α → Value} {okP : (Nat → α) → Nat → α → Prop} (S : HeapSys lt HR p enc okP) {w : World} {a : Nat → α} {n : Nat} {F : Nat → Prop}
include S

set_option maxRecDepth 100000 in
set_option maxHeartbeats 1000000 in
theorem up_walk (h : HR w a n F) {j : Nat} (hj : j < n) : Calls Tryz.prog 84 #[.iface 116 (.pointer (some p)), .int .i64 j] w fun e w' => e = .returned (.tuple #[]) ∧ HR w' (upF lt a j) n F ∧ Fr F w w' := by
  have hn := S.small h
  have HS := Lib.hid S
  have HH := Lib.hid h
  clear h S
  go_enter Tryz.func84, Tryz.ntmps84
  go_wp2
  go_loopg [1] j (fun g v wr => ∃ a' : Nat → α, g < n ∧ v = .int .i64 g ∧ HR wr a' n F ∧ upF lt a' g = upF lt a j ∧ Fr F w wr)
  case atStart => exact ⟨a, hj, rfl, HH.out, rfl, Fr.refl _ _⟩
  case round =>
    obtain ⟨a', hk, rfl, hr, he, hf⟩ := hrel
    have HR1 := Lib.hid hr
    have HE := Lib.hid he
    have HF := Lib.hid hf
    clear hr he hf HH
    by_cases h0 : gk = 0
    · have HU : Hid (upF lt a' gk = a') := by unfold Hid; rw [upF, dif_pos h0]
      subst h0
      go_wp2
      go_returns
      refine ⟨rfl, ?_, HF.out⟩
      rw [← HE.out, HU.out]; exact HR1.out
    · have hp : ((gk : Int) - 1) / 2 = (par gk : Nat) := by unfold par; omega
      have hpk : par gk < gk := by unfold par; omega
      have h1 : 1 ≤ (gk : Int) := by omega
      have hne2 : (((par gk : Nat) : Int) == (gk : Int)) = false := by simp; omega
      have HUP : Hid (upF lt a' gk = if lt (a' gk) (a' (par gk)) then upF lt (swp a' (par gk) gk) (par gk) else a') := by
        unfold Hid; rw [upF, dif_neg h0]
      obtain ⟨rv, hm, HC⟩ := HS.out.less (i := gk) (j := par gk) HR1.out hk (by omega)
      have HCL := Lib.hid HC
      have HSW : Hid (∀ w', Fr NoF wr w' → ∃ rv, (method 273 116 (.pointer (some p)) "Swap").run Tryz.prog w' = .ok (127, rv) w' ∧ Calls Tryz.prog 127 #[rv, .int .i64 (par gk : Nat), .int .i64 gk] w' fun e w'' => e = .returned (.tuple #[]) ∧ HR w'' (swp a' (par gk) gk) n F ∧ Fr F w' w'') := by
        intro w' f
        exact HS.out.swap (HS.out.fr HR1.out f (fun _ _ q => q)) (by omega) hk
      generalize hq : par gk = q at *
      have HQ := Lib.hid hq
      clear hq HC h0
      cases hl : lt (a' gk) (a' q) with
      | false =>
        rw [hl] at HCL HUP
        clear hl
        go_wp2_with fail
        refine HCL.out.mono ?_
        clear HCL hm
        rintro e w2 ⟨rfl, hf2⟩
        have HF2 := Lib.hid hf2
        clear hf2
        go_wp2
        go_returns
        refine ⟨rfl, ?_, HF.out.trans HF2.out (fun _ q => q.elim)⟩
        rw [← HE.out, HUP.out]
        exact HS.out.fr HR1.out HF2.out (fun _ _ q => q)
      | true =>
        rw [hl] at HCL HUP
        clear hl
        go_wp2_with fail
        refine HCL.out.mono ?_
        clear HCL hm
        rintro e w2 ⟨rfl, hf2⟩
        obtain ⟨rv2, hm2, HC2⟩ := HSW.out w2 hf2
        have HCS := Lib.hid HC2
        have HF2 := Lib.hid (HF.out.trans hf2 (fun _ q => q.elim))
        clear hf2 HC2
        go_wp2_with fail
        refine HCS.out.mono ?_
        clear HCS hm2
        rintro e w3 ⟨rfl, hr3, hf3⟩
        have HR3 := Lib.hid (And.intro hr3 (HF2.out.trans hf3 (fun i q => .inl q)))
        clear hr3 hf3
        go_wp2
        go_roundg q
        case measure => omega
        case rel => exact ⟨swp a' q gk, by omega, rfl, HR3.out.1, by rw [← HE.out, HUP.out]; simp, HR3.out.2⟩

set_option maxRecDepth 100000 in
set_option maxHeartbeats 4000000 in
theorem down_walk {m : Nat} (h : HR w a m F) (hnm : n ≤ m) {i : Nat} (hi : i < n) : Calls Tryz.prog 80 #[.iface 116 (.pointer (some p)), .int .i64 i, .int .i64 n] w fun e w' => e = .returned (.bool (decide (i < (downF lt n a i).2))) ∧ HR w' (downF lt n a i).1 m F ∧ Fr F w w' := by
  have hm0 := S.small h
  have HS := Lib.hid S
  have HH := Lib.hid h
  clear h S
  go_enter Tryz.func80, Tryz.ntmps80
  go_wp2
  go_loopg [7] (n - i) (fun g v wr => ∃ (k : Nat) (a' : Nat → α), k < n ∧ g = n - k ∧ v = .int .i64 k ∧ HR wr a' m F ∧ downF lt n a' k = downF lt n a i ∧ Fr F w wr)
  case atStart => exact ⟨i, a, hi, rfl, rfl, HH.out, rfl, Fr.refl _ _⟩
  case round =>
    obtain ⟨k, a', hk, rfl, rfl, hr, he, hf⟩ := hrel
    have HR1 := Lib.hid hr
    have HE := Lib.hid he
    have HF := Lib.hid hf
    clear hr he hf HH
    by_cases h0 : n ≤ 2 * k + 1
    · have HU : Hid (downF lt n a' k = (a', k)) := by unfold Hid; rw [downF, dif_pos h0]
      go_wp2
      go_returns
      have hE := HE.out
      rw [HU.out] at hE
      rw [← hE]
      exact ⟨by first | rfl | simp, HR1.out, HF.out⟩
    · have HDN0 : Hid (downF lt n a' k = if lt (a' (least2 lt a' n (2 * k + 1))) (a' k) then downF lt n (swp a' k (least2 lt a' n (2 * k + 1))) (least2 lt a' n (2 * k + 1)) else (a', k)) := by
        unfold Hid; rw [downF, dif_neg h0]
      have HLS : Hid (∀ (j : Nat) (w' : World), Fr NoF wr w' → j < n → k < n → ∃ rv, (method 273 116 (.pointer (some p)) "Less").run Tryz.prog w' = .ok (126, rv) w' ∧ Calls Tryz.prog 126 #[rv, .int .i64 j, .int .i64 k] w' fun e w'' => e = .returned (.bool (lt (a' j) (a' k))) ∧ Fr NoF w' w'') := by
        intro j w' f h1 h2
        exact HS.out.less (HS.out.fr HR1.out f (fun _ _ q => q)) (by omega) (by omega)
      have HSW : Hid (∀ (j : Nat) (w' : World), Fr NoF wr w' → j < n → ¬ k = j → ∃ rv, (method 273 116 (.pointer (some p)) "Swap").run Tryz.prog w' = .ok (127, rv) w' ∧ Calls Tryz.prog 127 #[rv, .int .i64 k, .int .i64 j] w' fun e w'' => e = .returned (.tuple #[]) ∧ HR w'' (swp a' k j) m F ∧ Fr F w' w'') := by
        intro j w' f h1 h2
        exact HS.out.swap (HS.out.fr HR1.out f (fun _ _ q => q)) (by omega) (by omega)
      have j1 : 2 * k + 1 < n := by omega
      by_cases h2 : 2 * k + 1 + 1 < n
      · obtain ⟨rv, hm, HC⟩ := HS.out.less (i := 2 * k + 1 + 1) (j := 2 * k + 1) HR1.out (by omega) (by omega)
        have HCL := Lib.hid HC
        clear HC
        cases hb : lt (a' (2 * k + 1 + 1)) (a' (2 * k + 1)) with
        | true =>
          rw [hb] at HCL
          have HDN : Hid (downF lt n a' k = if lt (a' (2 * k + 1 + 1)) (a' k) then downF lt n (swp a' k (2 * k + 1 + 1)) (2 * k + 1 + 1) else (a', k)) := by
            have : least2 lt a' n (2 * k + 1) = 2 * k + 1 + 1 := by unfold least2; rw [if_pos ⟨h2, hb⟩]
            have := this ▸ HDN0.out; exact this
          clear hb HDN0
          go_wp2_with fail
          refine HCL.out.mono ?_
          clear HCL hm
          rintro e w2 ⟨rfl, hf2⟩
          have HF2 := Lib.hid hf2
          clear hf2
          obtain ⟨rv1, hm1, HC1⟩ := HLS.out (2 * k + 1 + 1) w2 HF2.out h2 (by omega)
          have HCL1 := Lib.hid HC1
          clear HC1
          cases hl : lt (a' (2 * k + 1 + 1)) (a' k) with
          | false =>
            rw [hl] at HCL1 HDN
            clear hl
            go_wp2_with fail
            refine HCL1.out.mono ?_
            clear HCL1 hm1
            rintro e w3 ⟨rfl, hf3⟩
            have HF3 := Lib.hid (HF2.out.trans hf3 (fun _ q => q.elim))
            clear hf3
            go_wp2
            go_returns
            have hE := HE.out
            rw [HDN.out] at hE
            simp only [Bool.false_eq_true, if_false] at hE
            refine ⟨?_, ?_, HF.out.trans HF3.out (fun _ q => q.elim)⟩
            · rw [← hE]; first | rfl | simp
            · rw [← hE]; exact HS.out.fr HR1.out HF3.out (fun _ _ q => q)
          | true =>
            rw [hl] at HCL1 HDN
            clear hl
            go_wp2_with fail
            refine HCL1.out.mono ?_
            clear HCL1 hm1
            rintro e w3 ⟨rfl, hf3⟩
            obtain ⟨rv2, hm2, HC2⟩ := HSW.out (2 * k + 1 + 1) w3 (HF2.out.trans hf3 (fun _ q => q.elim)) h2 (by omega)
            have HCS := Lib.hid HC2
            have HF3 := Lib.hid (HF.out.trans (HF2.out.trans hf3 (fun _ q => q.elim)) (fun _ q => q.elim))
            clear hf3 HC2
            go_wp2_with fail
            refine HCS.out.mono ?_
            clear HCS hm2
            rintro e w4 ⟨rfl, hr4, hf4⟩
            have HR4 := Lib.hid (And.intro hr4 (HF3.out.trans hf4 (fun i q => .inl q)))
            clear hr4 hf4
            go_wp2
            go_roundg (n - ((2 * k + 1 + 1)))
            case measure => omega
            case rel => exact ⟨(2 * k + 1 + 1), swp a' k ((2 * k + 1 + 1)), h2, rfl, by first | rfl | go_num | (simp; done) | (congr 1; push_cast; omega), HR4.out.1, by rw [← HE.out, HDN.out]; simp, HR4.out.2⟩
        | false =>
          rw [hb] at HCL
          have HDN : Hid (downF lt n a' k = if lt (a' (2 * k + 1)) (a' k) then downF lt n (swp a' k (2 * k + 1)) (2 * k + 1) else (a', k)) := by
            have : least2 lt a' n (2 * k + 1) = 2 * k + 1 := by unfold least2; rw [if_neg (fun q => by rw [hb] at q; cases q.2)]
            have := this ▸ HDN0.out; exact this
          clear hb HDN0
          go_wp2_with fail
          refine HCL.out.mono ?_
          clear HCL hm
          rintro e w2 ⟨rfl, hf2⟩
          have HF2 := Lib.hid hf2
          clear hf2
          obtain ⟨rv1, hm1, HC1⟩ := HLS.out (2 * k + 1) w2 HF2.out j1 (by omega)
          have HCL1 := Lib.hid HC1
          clear HC1
          cases hl : lt (a' (2 * k + 1)) (a' k) with
          | false =>
            rw [hl] at HCL1 HDN
            clear hl
            go_wp2_with fail
            refine HCL1.out.mono ?_
            clear HCL1 hm1
            rintro e w3 ⟨rfl, hf3⟩
            have HF3 := Lib.hid (HF2.out.trans hf3 (fun _ q => q.elim))
            clear hf3
            go_wp2
            go_returns
            have hE := HE.out
            rw [HDN.out] at hE
            simp only [Bool.false_eq_true, if_false] at hE
            refine ⟨?_, ?_, HF.out.trans HF3.out (fun _ q => q.elim)⟩
            · rw [← hE]; first | rfl | simp
            · rw [← hE]; exact HS.out.fr HR1.out HF3.out (fun _ _ q => q)
          | true =>
            rw [hl] at HCL1 HDN
            clear hl
            go_wp2_with fail
            refine HCL1.out.mono ?_
            clear HCL1 hm1
            rintro e w3 ⟨rfl, hf3⟩
            obtain ⟨rv2, hm2, HC2⟩ := HSW.out (2 * k + 1) w3 (HF2.out.trans hf3 (fun _ q => q.elim)) j1 (by omega)
            have HCS := Lib.hid HC2
            have HF3 := Lib.hid (HF.out.trans (HF2.out.trans hf3 (fun _ q => q.elim)) (fun _ q => q.elim))
            clear hf3 HC2
            go_wp2_with fail
            refine HCS.out.mono ?_
            clear HCS hm2
            rintro e w4 ⟨rfl, hr4, hf4⟩
            have HR4 := Lib.hid (And.intro hr4 (HF3.out.trans hf4 (fun i q => .inl q)))
            clear hr4 hf4
            go_wp2
            go_roundg (n - ((2 * k + 1)))
            case measure => omega
            case rel => exact ⟨(2 * k + 1), swp a' k ((2 * k + 1)), j1, rfl, by first | rfl | go_num | (simp; done) | (congr 1; push_cast; omega), HR4.out.1, by rw [← HE.out, HDN.out]; simp, HR4.out.2⟩
      · have HDN : Hid (downF lt n a' k = if lt (a' (2 * k + 1)) (a' k) then downF lt n (swp a' k (2 * k + 1)) (2 * k + 1) else (a', k)) := by
          have : least2 lt a' n (2 * k + 1) = 2 * k + 1 := by unfold least2; rw [if_neg (fun q => h2 q.1)]
          have := this ▸ HDN0.out; exact this
        clear HDN0
        obtain ⟨rv1, hm1, HC1⟩ := HLS.out (2 * k + 1) wr (Fr.refl NoF wr) j1 (by omega)
        have HCL1 := Lib.hid HC1
        clear HC1
        cases hl : lt (a' (2 * k + 1)) (a' k) with
        | false =>
          rw [hl] at HCL1 HDN
          clear hl
          go_wp2_with fail
          refine HCL1.out.mono ?_
          clear HCL1 hm1
          rintro e w3 ⟨rfl, hf3⟩
          have HF3 := Lib.hid ((Fr.refl NoF wr).trans hf3 (fun _ q => q.elim))
          clear hf3
          go_wp2
          go_returns
          have hE := HE.out
          rw [HDN.out] at hE
          simp only [Bool.false_eq_true, if_false] at hE
          refine ⟨?_, ?_, HF.out.trans HF3.out (fun _ q => q.elim)⟩
          · rw [← hE]; first | rfl | simp
          · rw [← hE]; exact HS.out.fr HR1.out HF3.out (fun _ _ q => q)
        | true =>
          rw [hl] at HCL1 HDN
          clear hl
          go_wp2_with fail
          refine HCL1.out.mono ?_
          clear HCL1 hm1
          rintro e w3 ⟨rfl, hf3⟩
          obtain ⟨rv2, hm2, HC2⟩ := HSW.out (2 * k + 1) w3 ((Fr.refl NoF wr).trans hf3 (fun _ q => q.elim)) j1 (by omega)
          have HCS := Lib.hid HC2
          have HF3 := Lib.hid (HF.out.trans ((Fr.refl NoF wr).trans hf3 (fun _ q => q.elim)) (fun _ q => q.elim))
          clear hf3 HC2
          go_wp2_with fail
          refine HCS.out.mono ?_
          clear HCS hm2
          rintro e w4 ⟨rfl, hr4, hf4⟩
          have HR4 := Lib.hid (And.intro hr4 (HF3.out.trans hf4 (fun i q => .inl q)))
          clear hr4 hf4
          go_wp2
          go_roundg (n - ((2 * k + 1)))
          case measure => omega
          case rel => exact ⟨(2 * k + 1), swp a' k ((2 * k + 1)), j1, rfl, by first | rfl | go_num | (simp; done) | (congr 1; push_cast; omega), HR4.out.1, by rw [← HE.out, HDN.out]; simp, HR4.out.2⟩
end
end Go.Proofs.YtmpjnphnljakiaaGreatDoor

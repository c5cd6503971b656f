/-
  QueueSorts: things that are taken out, the least one first, come in the order of their keys; none comes twice: the walk. No condition.
-/
import Derived.Test.YtnpelmenkmjpfaaQueG
import Derived.Deep.QuietTactic
import Derived.BigQuiet
import Derived.Deep.DeepCutAuto
namespace Go.Proofs.Ytnpelmenkmjpfaa
open Go.RowKit Go.Maps
set_option linter.unusedVariables false

/-- A slice of numbers that came in. -/
def ArgZ (w : World) (v : Value) (n : Nat) (z : Nat → Int) : Prop :=
  ∃ a c, v = .slice a n c ∧ n ≤ c ∧ c ≤ maxLen ∧ (0 < n → ∃ b off, a = some ⟨b, off, none⟩ ∧ b < w.heap.size ∧ ∀ j, j < n → w.cell? ⟨b, off + j, none⟩ = some (.int .i64 (z j))) ∧ ∀ j, j < n → i64 (z j)
def itemQ (z : Nat → Int) (j : Nat) : Th := ⟨(j : Int), z j, ((j % 3 : Nat) : Int)⟩
set_option maxRecDepth 100000 in
set_option maxHeartbeats 8000000 in
theorem sorts_from (n : Nat) (hn : n ≤ 150) (z : Nat → Int) (sa : Option Addr) (sc L : Nat) (hL : n ≤ sc) (hc : sc ≤ 9223372036854775807) (w : World) (hcs : (L ≤ 150 ∧ n = L) ∨ (150 < L ∧ n = 150)) (hLL : n ≤ L) (hLc : L ≤ sc)
    (hcells : 0 < n → ∃ b off, sa = some ⟨b, off, none⟩ ∧ b < w.heap.size ∧ ∀ j, j < n → w.cell? ⟨b, off + j, none⟩ = some (.int .i64 (z j))) (hz : ∀ j, j < n → i64 (z j)) :
    Calls Try.prog 4 #[.slice sa L sc] w fun e w' => e = .returned (.bool true) ∧ Fr NoF w w' := by
  have HCE := Lib.hid hcells
  have HZ := Lib.hid hz
  have hnL : (n : Int) ≤ (L : Int) := by omega
  have hn0 : 0 ≤ (n : Int) := by omega
  clear hcells hz
  have HCS := Lib.hid hcs
  clear hcs
  go_enter Try.func4, Try.ntmps4
  go_upto_region 1 with fail
  go_cut [0] (fun s0 wx => s0 = .slice sa n sc ∧ w = wx)
  case first =>
    rcases HCS.out with ⟨q1, rfl⟩ | ⟨q1, rfl⟩
    · have q2 : (n : Int) ≤ 150 := by omega
      have q3 : min (n : Int) 150 = (n : Int) := by omega
      go_wp2_with fail
      all_goals (go_meet; exact ⟨rfl, by first | rfl | trivial⟩)
    · have q2 : 150 < (L : Int) := by omega
      have q3 : min (L : Int) 150 = 150 := by omega
      go_wp2_with fail
      all_goals (go_meet; exact ⟨rfl, by first | rfl | trivial⟩)
  obtain ⟨rfl, rfl⟩ := hcut
  clear hLL hLc hnL HCS
  go_wp2_with fail
  refine (qn_new _).mono ?_
  rintro e w1 ⟨qb, rfl, h1⟩
  have HQ1 := Lib.hid h1
  clear h1
  go_wp2_with fail
  refine (toldQ_calls _).mono ?_
  rintro e w2 ⟨rfl, f2⟩
  have HQ2 := Lib.hid (HQ1.out.fr0 f2)
  clear HQ1 f2
  go_wp2_with fail
  go_loopw [4] (fun i wr => ∃ j : Nat, j ≤ n ∧ i = .int .i64 j ∧ QN w wr qb (fun u => ∃ i, i < j ∧ u = itemQ z i) j) (fun i _ => n - (intOf i).toNat)
  case atStart => exact ⟨0, Nat.zero_le _, rfl, HQ2.out.congr (fun t => ⟨fun q => q.elim, fun ⟨i, q, _⟩ => by omega⟩)⟩
  case round =>
    obtain ⟨j, hj, rfl, hq⟩ := hrel
    have HQ3 := Lib.hid hq
    have HFW := Lib.hid hq.f
    clear hq HQ2
    by_cases hlt : j < n
    · obtain ⟨xb, xo, rfl, hxb, hcell⟩ := HCE.out (by omega)
      have cz := hcell j hlt
      rw [← HFW.out.cell (p := ⟨xb, xo + j, none⟩) hxb id] at cz
      have PU := Lib.hid (qn_put_new HQ3.out (t := itemQ z j) ⟨WalkArith.wf_i64 ⟨by show _ ≤ ((j : Nat) : Int); omega, by show ((j : Nat) : Int) ≤ _; omega⟩, HZ.out j hlt, WalkArith.wf_i64 ⟨by show _ ≤ ((j % 3 : Nat) : Int); omega, by show ((j % 3 : Nat) : Int) ≤ _; omega⟩⟩ (by omega) (fun u ⟨i, hi, e⟩ q => by
        subst e
        have q : ((i : Nat) : Int) = (j : Int) := q
        omega))
      have HQN : Hid (∀ w5, QN w w5 qb (fun u => u = itemQ z j ∨ ∃ i, i < j ∧ u = itemQ z i) (j + 1) → QN w w5 qb (fun u => ∃ i, i < j + 1 ∧ u = itemQ z i) (j + 1)) := fun w5 h => h.congr (fun t => ⟨fun q => by
        rcases q with q | ⟨i, h1, h2⟩
        · exact ⟨j, by omega, q⟩
        · exact ⟨i, by omega, h2⟩, fun ⟨i, h1, h2⟩ => by
        by_cases e : i = j
        · subst e; exact .inl h2
        · exact .inr ⟨i, by omega, h2⟩⟩)
      have PU2 : Hid (Calls Try.prog 8 #[.pointer (some ⟨qb, 0, none⟩), .int .i64 (j : Int), .agg #[.int .i64 (z j), .int .i64 ((j % 3 : Nat) : Int)]] wr fun e w' => e = .returned (.tuple #[]) ∧ QN w w' qb (fun u => ∃ i, i < j + 1 ∧ u = itemQ z i) (j + 1)) := PU.out.mono fun e w' ⟨he, hq⟩ => ⟨he, HQN.out w' hq⟩
      clear PU HQN
      have HM4 : Hid ((j : Int) % 3 = ((j % 3 : Nat) : Int)) := by unfold Hid; omega
      have hj0 : 0 ≤ (j : Int) := by omega
      have hj9 : (j : Int) ≤ 150 := by omega
      generalize z j = zj at cz PU2
      clear hcell
      go_wp2_with fail
      refine PU2.out.mono ?_
      rintro e w4 ⟨rfl, hq4⟩
      have HQ4 := Lib.hid hq4
      clear hq4 PU2 cz
      go_wp2
      go_roundw
      case rel => exact ⟨j + 1, by omega, by go_num, HQ4.out⟩
      case measure => simp [intOf]; omega
    · obtain rfl : n = j := by omega
      clear hlt HFW
      go_wp2
      go_loopw [5, 6] (fun wv i wr => ∃ j : Nat, j ≤ n ∧ i = .int .i64 j ∧ ∃ M : Th → Prop, QN w wr qb M (n - j) ∧ (∀ u, M u → ∃ i, i < n ∧ u = itemQ z i) ∧ (wv = .int .i64 (-1) ∨ ∃ p : Nat, wv = .int .i64 p ∧ p < n ∧ ∀ u, M u → ltT (itemQ z p) u = true)) (fun _ i _ => n - (intOf i).toNat)
      case atStart => exact ⟨0, Nat.zero_le _, rfl, _, by rw [Nat.sub_zero]; exact HQ3.out, fun u q => q, .inl rfl⟩
      case round =>
        obtain ⟨j, hj, rfl, M, hq, hms, hwas⟩ := hrel
        have HQ4 := Lib.hid hq
        have HMS := Lib.hid hms
        clear hq hms HQ3
        by_cases hlt : j < n
        · obtain ⟨t, ht, hc⟩ := qn_least HQ4.out (by omega)
          obtain ⟨p', hp', rfl⟩ := HMS.out t ht.1
          have HT := Lib.hid ht
          have HC : Hid (Calls Try.prog 7 #[.pointer (some ⟨qb, 0, none⟩)] wr fun e w' => e = .returned (.tuple #[.int .i64 (p' : Int), .bool true]) ∧ wr = w') := hc.out
          have hQ4' : QN w wr qb M (n - j - 1 + 1) := by rw [show n - j - 1 + 1 = n - j from by omega]; exact HQ4.out
          have HQ4 := Lib.hid hQ4'
          have hp1 : 0 ≤ (p' : Int) := by omega
          have hp2 : (p' : Int) < (n : Int) := by omega
          have hp3 : decide (n ≤ p') = false := by simp; omega
          clear ht hc hQ4'
          go_wp2_with fail
          refine HC.out.mono ?_
          clear HC
          rintro e w4 ⟨rfl, rfl⟩
          have DR := Lib.hid (qn_drop_yes HQ4.out ⟨itemQ z p', HT.out.1, rfl⟩)
          have HQN : Hid (∀ w5, QN w w5 qb (fun u => M u ∧ ¬ u.x = (p' : Int)) (n - j - 1) → QN w w5 qb (fun u => M u ∧ ¬ u.x = (p' : Int)) (n - (j + 1))) := fun w5 h => by rw [show n - (j + 1) = n - j - 1 from by omega]; exact h
          have HM5 : Hid (∀ u, M u ∧ ¬ u.x = (p' : Int) → ∃ i, i < n ∧ u = itemQ z i) := fun u q => HMS.out u q.1
          have HL5 : Hid (∀ u, M u ∧ ¬ u.x = (p' : Int) → ltT (itemQ z p') u = true) := fun u q => ltT_total (HT.out.2 u q.1) q.2
          go_wp2_with fail
          refine DR.out.mono ?_
          rintro e w5 ⟨rfl, hq5⟩
          have HQ5 := Lib.hid (HQN.out w5 hq5)
          have HFW := Lib.hid hq5.f
          clear hq5 HQN DR
          rcases hwas with rfl | ⟨p, rfl, hp, hl⟩
          · clear hp1 hp2 hp3
            go_wp2
            go_quiet (fail)
            go_wp2
            go_roundw
            case rel => exact ⟨j + 1, by omega, by go_num, _, HQ5.out.fr0 (by repeat (first | exact Fr.refl NoF _ | apply Fr.drewN | apply Fr.drew)), HM5.out, .inr ⟨p', rfl, hp', HL5.out⟩⟩
            case measure => simp [intOf]; omega
          · have hlt2 := hl _ HT.out.1
            rw [ltT_iff] at hlt2
            unfold itemQ at hlt2
            simp only at hlt2
            have HLT := Lib.hid hlt2
            obtain ⟨xb, xo, rfl, hxb, hcell⟩ := HCE.out (by omega)
            have cz := hcell p' (by omega)
            rw [← HFW.out.cell (p := ⟨xb, xo + p', none⟩) hxb id] at cz
            have cy := hcell p (by omega)
            rw [← HFW.out.cell (p := ⟨xb, xo + p, none⟩) hxb id] at cy
            clear hcell
            have hpp : 0 ≤ (p : Int) := by omega
            have hq1 : (p : Int) % 3 = ((p % 3 : Nat) : Int) := by omega
            have hq2 : (p' : Int) % 3 = ((p' % 3 : Nat) : Int) := by omega
            have ht1 : ((p : Int).tmod 3) = ((p % 3 : Nat) : Int) := by rw [Int.tmod_eq_emod_of_nonneg (by omega)]; omega
            have ht2 : ((p' : Int).tmod 3) = ((p' % 3 : Nat) : Int) := by rw [Int.tmod_eq_emod_of_nonneg (by omega)]; omega
            generalize hA : z p = zp at cy
            generalize hA' : z p' = zp' at cz
            have HA := Lib.hid hA
            have HA' := Lib.hid hA'
            generalize hB : p % 3 = bp at hq1 ht1
            generalize hB' : p' % 3 = bp' at hq2 ht2
            have HB := Lib.hid hB
            have HB' := Lib.hid hB'
            have HLT2 : Hid (zp < zp' ∨ (zp = zp' ∧ (bp < bp' ∨ (bp = bp' ∧ p < p')))) := by
              have := HLT.out
              rw [HA.out, HA'.out, HB.out, HB'.out] at this
              unfold Hid
              omega
            clear hlt2 hl hA hA' hB hB' HLT hp1 hp2 hp3
            obtain h1 | h1 | h1 : zp < zp' ∨ (zp = zp' ∧ bp < bp') ∨ (zp = zp' ∧ bp = bp' ∧ p < p') := by
              have := HLT2.out
              omega
            · have g1 : decide (zp' < zp) = false := by simp; omega
              have g2 : (zp == zp') = false := by simp; omega
              clear h1
              go_wp2
              go_quiet (fail)
              go_wp2
              go_roundw
              case rel => exact ⟨j + 1, by omega, by go_num, _, HQ5.out.fr0 (by repeat (first | exact Fr.refl NoF _ | apply Fr.drewN | apply Fr.drew)), HM5.out, .inr ⟨p', rfl, hp', HL5.out⟩⟩
              case measure => simp [intOf]; omega
            · obtain ⟨rfl, h2⟩ := h1
              have g1 : decide (bp' < bp) = false := by simp; omega
              have g2 : (bp == bp') = false := by simp; omega
              have g3 : ((bp : Int) == (bp' : Int)) = false := by simp; omega
              clear h2
              go_wp2
              go_quiet (fail)
              go_wp2
              go_roundw
              case rel => exact ⟨j + 1, by omega, by go_num, _, HQ5.out.fr0 (by repeat (first | exact Fr.refl NoF _ | apply Fr.drewN | apply Fr.drew)), HM5.out, .inr ⟨p', rfl, hp', HL5.out⟩⟩
              case measure => simp [intOf]; omega
            · obtain ⟨rfl, rfl, h2⟩ := h1
              have g1 : decide (p' ≤ p) = false := by simp; omega
              clear h2
              go_wp2
              go_quiet (fail)
              go_wp2
              go_roundw
              case rel => exact ⟨j + 1, by omega, by go_num, _, HQ5.out.fr0 (by repeat (first | exact Fr.refl NoF _ | apply Fr.drewN | apply Fr.drew)), HM5.out, .inr ⟨p', rfl, hp', HL5.out⟩⟩
              case measure => simp [intOf]; omega
        · obtain rfl : n = j := by omega
          have hQ4' : QN w wr qb M 0 := by rw [← Nat.sub_self n]; exact HQ4.out
          have HQ5 := Lib.hid hQ4'
          have LE := Lib.hid (qn_len hQ4')
          clear hwas hQ4' HQ4 hlt
          go_wp2_with fail
          refine LE.out.mono ?_
          rintro e w5 ⟨rfl, rfl⟩
          go_wp2
          go_returns
          exact ⟨rfl, HQ5.out.f⟩
theorem sorts_walk {v : Value} {n : Nat} {z : Nat → Int} {w : World} (h : ArgZ w v n z) : Calls Try.prog 4 #[v] w fun e w' => e = .returned (.bool true) ∧ Fr NoF w w' := by
  obtain ⟨a, c, rfl, h1, h2, h3, h4⟩ := h
  unfold maxLen at h2
  by_cases q : n ≤ 150
  · exact sorts_from n q z a c n h1 (by omega) w (.inl ⟨q, rfl⟩) (Nat.le_refl _) h1 h3 h4
  · exact sorts_from 150 (Nat.le_refl _) z a c n (by omega) (by omega) w (.inr ⟨by omega, rfl⟩) (by omega) h1 (fun _ => by
      obtain ⟨b, off, e1, e2, e3⟩ := h3 (by omega)
      exact ⟨b, off, e1, e2, fun j hj => e3 j (by omega)⟩) (fun j hj => h4 j (by omega))
end Go.Proofs.Ytnpelmenkmjpfaa

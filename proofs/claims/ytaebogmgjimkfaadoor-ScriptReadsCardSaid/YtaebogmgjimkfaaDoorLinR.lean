/-
  Lines, the document's: big, num, names.
-/
import Derived.Test.YtaebogmgjimkfaaDoorLinK
import Derived.BigQuiet
namespace Go.Proofs.YtaebogmgjimkfaaDoor
open Go.RowKit Go.Maps Go.Sort
set_option linter.unusedVariables false
set_option linter.unusedSimpArgs false
set_option maxRecDepth 100000
theorem dig_slice (d : Nat) (hd : d < 10) (W : World) : (Instr.slice 9 (.string ⟨#[48, 49, 50, 51, 52, 53, 54, 55, 56, 57]⟩) (some (.int .u64 (d : Nat))) (some (.int .u64 ((d : Int) + 1))) none).run Tryd.prog W = .ok (.string (bs [UInt8.ofNat (48 + d)])) W := by
  rw [run_slice_string W 9 _ .u64 .u64 (d : Int) ((d : Int) + 1) Tryd.underlying9 (by omega) (by omega) (by show (d : Int) + 1 ≤ 10; omega)]
  have h : ∀ d : Nat, d < 10 → (⟨#[48, 49, 50, 51, 52, 53, 54, 55, 56, 57]⟩ : ByteArray).extract ((d : Int)).toNat ((d : Int) + 1).toNat = bs [UInt8.ofNat (48 + d)] := by decide
  rw [h d hd]
theorem big_calls (n : Nat) : ∀ (w : World), n < 18446744073709551616 → Calls Tryd.prog 27 #[.int .u64 (n : Nat)] w fun e w' => e = .returned (.string (bs (Lib.decDigits n))) ∧ ∃ d, w.drewN d = w' := by
  induction n using Nat.strongRecOn with
  | _ n ih =>
    intro w hn
    have HD := Lib.hid (@dig_slice)
    by_cases h : n < 10
    · have e : Lib.decDigits n = [UInt8.ofNat (48 + n)] := by unfold Lib.decDigits; rw [dif_pos h]
      rw [e]
      have hs := HD.out n h
      have hi : (n : Int) < 10 := by omega
      have ew : IntKind.u64.wrap ((n : Int) + 1) = (n : Int) + 1 := IntWalk.u64_in _ (by omega)
      clear ih hn HD e
      generalize bs [UInt8.ofNat (48 + n)] = r at *
      go_enter Tryd.func27, Tryd.ntmps27
      go_wp2
      go_returns
      exact ⟨rfl, 0, rfl⟩
    · have hm : n % 10 < 10 := Nat.mod_lt _ (by decide)
      have hs := HD.out (n % 10) hm
      have HC := Lib.hid (fun w => ih (n / 10) (by omega) w (by omega))
      have hl := dd_len_le (n / 10) 20 (by omega) (by decide)
      have add1 : ∀ W, (Op.stringOp .add (bs (Lib.decDigits (n / 10))) (bs [UInt8.ofNat (48 + n % 10)])).run Tryd.prog W = .ok (.string (bs (Lib.decDigits n))) W := fun W => by
        rw [add_bs _ _ (by simp; omega)]
        congr 3
        conv => rhs; unfold Lib.decDigits
        rw [dif_neg h]
      have e1 : (n : Int) / 10 = ((n / 10 : Nat) : Int) := by omega
      have e2 : (n : Int) % 10 = ((n % 10 : Nat) : Int) := by omega
      have ew : IntKind.u64.wrap (((n % 10 : Nat) : Int) + 1) = ((n % 10 : Nat) : Int) + 1 := IntWalk.u64_in _ (by omega)
      have ed : Int.tdiv (n : Int) 10 = ((n / 10 : Nat) : Int) := by rw [Int.tdiv_eq_ediv_of_nonneg (by omega)]; omega
      have em : Int.tmod (n : Int) 10 = ((n % 10 : Nat) : Int) := by rw [Int.tmod_eq_emod_of_nonneg (by omega)]; omega
      have hi : ¬ (n : Int) < 10 := by omega
      have hd : decide ((n : Int) < 10) = false := by simp; omega
      generalize bs (Lib.decDigits n) = r at *
      generalize bs (Lib.decDigits (n / 10)) = r1 at *
      generalize bs [UInt8.ofNat (48 + n % 10)] = r2 at *
      generalize n / 10 = q at *
      generalize n % 10 = p at *
      clear ih HD hl
      go_enter Tryd.func27, Tryd.ntmps27
      go_wp2_with fail
      go_quiet ((go_at_call 27; with_reducible exact qd (HC.out _)))
      go_wp2
      go_returns
      exact ⟨rfl, _, rfl⟩
theorem idx_bs {P : Program} (t : TypeId) (hu : P.underlying t = some .string) {l : List UInt8} {i : Nat} (h : i < l.length) (W : World) : (Instr.index t (.string (bs l)) (.int .i64 (i : Nat))).run P W = .ok (.int .u8 ((l.getD i 0).toNat : Nat)) W := by
  rw [run_index_string W t (bs l) .i64 (i : Nat) hu, dif_pos ⟨by omega, by rw [bs_size]; omega⟩]
  have e : (bs l)[((i : Nat) : Int).toNat]'(by rw [bs_size]; omega) = l.getD i 0 := by
    rw [List.getD_eq_getElem?_getD, List.getElem?_eq_getElem h]
    rfl
  rw [e]
theorem take_snocD (l : List UInt8) {k : Nat} (h : k < l.length) : l.take (k + 1) = l.take k ++ [l.getD k 0] := by
  rw [List.take_succ_eq_append_getElem h, List.getD_eq_getElem?_getD, List.getElem?_eq_getElem h]
  rfl
/-- What k of a word's bytes spell. -/
def numK (l : List UInt8) (k : Nat) : Nat := (l.take k).foldl (fun a c => (10 * a + c.toNat % 16) % 18446744073709551616) 0
theorem numK_succ (l : List UInt8) {k : Nat} (h : k < l.length) : numK l (k + 1) = (10 * numK l k + (l.getD k 0).toNat % 16) % 18446744073709551616 := by
  unfold numK
  rw [take_snocD l h, List.foldl_append]
  rfl
theorem numK_lt (l : List UInt8) (k : Nat) : numK l k < 18446744073709551616 := by
  unfold numK
  have : ∀ (m : List UInt8) (a : Nat), a < 18446744073709551616 → m.foldl (fun a c => (10 * a + c.toNat % 16) % 18446744073709551616) a < 18446744073709551616 := by
    intro m
    induction m with
    | nil => intro a h; exact h
    | cons c m ih => intro a _; exact ih _ (Nat.mod_lt _ (by decide))
  exact this _ 0 (by decide)
theorem numD_K (l : List UInt8) : numD l = numK l (min l.length 20) := by
  unfold numD numK
  congr 1
  by_cases h : l.length ≤ 20
  · rw [Nat.min_eq_left h, List.take_of_length_le h, List.take_length]
  · rw [Nat.min_eq_right (by omega)]
set_option maxHeartbeats 1000000 in
theorem num_calls {w : World} {l : List UInt8} (hl : l.length ≤ 1000) :
    Calls Tryd.prog 25 #[.string (bs l)] w fun e w' => e = .returned (.int .u64 (numD l : Nat)) ∧ w = w' := by
  have HI := Lib.hid (fun i h W => @idx_bs Tryd.prog _ Tryd.underlying9 l i h W)
  have hz : (bs l).size = l.length := bs_size l
  have HD := Lib.hid (numD_K l)
  go_enter Tryd.func25, Tryd.ntmps25
  go_wp2
  go_loop [3, 4] (fun n i => ∃ k : Nat, k ≤ min l.length 20 ∧ i = .int .i64 k ∧ n = .int .u64 (numK l k : Nat)) (fun _ i => 20 - (intOf i).toNat)
  case atStart => exact ⟨0, Nat.zero_le _, rfl, rfl⟩
  case round =>
    obtain ⟨k, hk, rfl, rfl⟩ := hrel
    have hk1 : k ≤ l.length := Nat.le_trans hk (Nat.min_le_left _ _)
    have hk2 : k ≤ 20 := Nat.le_trans hk (Nat.min_le_right _ _)
    by_cases hlt : k < l.length
    · by_cases hlt2 : k < 20
      · have hi := HI.out k hlt
        have hb : (l.getD k 0).toNat < 256 := UInt8.toNat_lt _
        have HS := Lib.hid (numK_succ l hlt)
        have hn := numK_lt l k
        generalize numK l k = n at *
        generalize (l.getD k 0).toNat = c at *
        have ew1 : IntKind.u64.wrap (10 * (n : Int)) = ((10 * n % 18446744073709551616 : Nat) : Int) := by rw [IntKind.wrap_u64]; omega
        have ec : Int.tmod (c : Int) 16 = ((c % 16 : Nat) : Int) := by rw [Int.tmod_eq_emod_of_nonneg (by omega)]; omega
        have ec2 : (c : Int) % 16 = ((c % 16 : Nat) : Int) := by omega
        have ew2 : IntKind.u64.wrap (((10 * n % 18446744073709551616 : Nat) : Int) + ((c % 16 : Nat) : Int)) = (((10 * n + c % 16) % 18446744073709551616 : Nat) : Int) := by rw [IntKind.wrap_u64]; omega
        have HX : Hid (numK l (k + 1) = (10 * n + c % 16) % 18446744073709551616) := HS.out
        have hc16 : c % 16 < 16 := Nat.mod_lt _ (by decide)
        generalize (10 * n + c % 16) % 18446744073709551616 = n2 at *
        generalize 10 * n % 18446744073709551616 = n1 at *
        generalize c % 16 = c1 at *
        clear HS hn
        go_wp2
        go_round
        case rel => exact ⟨k + 1, by omega, by go_num, by rw [HX.out]⟩
        case measure => simp [intOf]; omega
      · obtain rfl : k = 20 := by omega
        go_wp2
        go_returns
        exact ⟨by rw [HD.out, Nat.min_eq_right (by omega)]; rfl, rfl⟩
    · obtain rfl : k = l.length := by omega
      have HX := Lib.hid hk2
      clear hk2 hk
      go_wp2
      go_returns
      exact ⟨by rw [HD.out, Nat.min_eq_left HX.out]; rfl, rfl⟩
end Go.Proofs.YtaebogmgjimkfaaDoor

/-
  Lines, the program's: behind, number, kindOf.
-/
import Derived.Test.YtaebogmgjimkfaaDoorLinF
import Derived.Handy
import Derived.Deep.MidRow
import Derived.Lib.ParseIntBCases
import Derived.Lib.AtoiErrMem
namespace Go.Proofs.YtaebogmgjimkfaaDoor
open Go.RowKit Go.Maps Go.Sort
set_option linter.unusedVariables false
set_option linter.unusedSimpArgs false
set_option maxRecDepth 100000
/-- A text of bytes. -/
def bs (l : List UInt8) : ByteArray := ⟨l.toArray⟩
theorem eqB (a b : ByteArray) : (a.toList == b.toList) = decide (a = b) := by
  rw [ByteArray.toList_eq, ByteArray.toList_eq]
  by_cases h : a = b
  · subst h; simp
  · rw [decide_eq_false h]
    cases e : (a.data.toList == b.data.toList) with
    | false => rfl
    | true => exact (h (by
        have := eq_of_beq e
        cases a; cases b; simp_all)).elim
theorem bs_app (a b : List UInt8) : bs a ++ bs b = bs (a ++ b) := by
  apply ByteArray.ext
  rw [ByteArray.data_append]
  simp [bs]
theorem bs_of (s : ByteArray) : bs s.data.toList = s := rfl
theorem bs_list (l : List UInt8) : (bs l).data.toList = l := rfl
theorem bs_size (l : List UInt8) : (bs l).size = l.length := by simp [bs, ByteArray.size]
theorem bs_inj {a b : List UInt8} : bs a = bs b ↔ a = b := ⟨fun h => by have := congrArg (fun s : ByteArray => s.data.toList) h; simpa [bs] using this, fun h => by rw [h]⟩
theorem add_bs {P : Program} (a b : List UInt8) (h : a.length + b.length ≤ 9223372036854775807) (W : World) : (Op.stringOp .add (bs a) (bs b)).run P W = .ok (.string (bs (a ++ b))) W := by
  rw [run_string_add_sum W _ _ (by rw [bs_size, bs_size]; exact h), bs_app]
theorem behind_calls {w : World} (hT : LT w) {l : List UInt8} (hl : l.length ≤ 1000000) {u : Nat} (hu : u < 18446744073709551616) :
    Calls Tryd.prog 26 #[.string (bs l), .int .u64 u] w fun e w' => e = .returned (.string (bs (l ++ 32 :: Lib.decDigits u))) ∧ Fr NoF w w' := by
  have H := Lib.hid (format_calls hT hu)
  have hd := dd_len_le u 20 (by omega) (by decide)
  have add1 : ∀ W, (Op.stringOp .add (bs l) ⟨#[32]⟩).run Tryd.prog W = .ok (.string (bs (l ++ [32]))) W := fun W => add_bs l [32] (by simp; omega) W
  have add2 : ∀ W, (Op.stringOp .add (bs (l ++ [32])) ⟨(Lib.decDigits u).toArray⟩).run Tryd.prog W = .ok (.string (bs (l ++ 32 :: Lib.decDigits u))) W := fun W => by
    have := add_bs (P := Tryd.prog) (l ++ [32]) (Lib.decDigits u) (by simp; omega) W
    rw [List.append_assoc] at this
    exact this
  generalize bs (l ++ 32 :: Lib.decDigits u) = r at *
  generalize bs (l ++ [32]) = s1 at *
  generalize bs l = s at *
  generalize (⟨(Lib.decDigits u).toArray⟩ : ByteArray) = d at *
  clear hT hu hd
  go_enter Tryd.func26, Tryd.ntmps26
  go_wp2_with fail
  refine H.out.mono ?_
  rintro e w1 ⟨rfl, h1⟩
  have H1 := Lib.hid h1
  clear h1
  go_wp2
  go_returns
  exact ⟨rfl, H1.out⟩
theorem number_calls {w : World} (hT : LT w) {l : List UInt8} (hl : l.length ≤ 1000000) {B : Nat} (hB : B = 32 ∨ B = 64) :
    Calls Tryd.prog 22 #[.string (bs l), .int .i64 B] w fun e w' => e = .returned (.int .u64 (numP B l : Nat)) ∧ Fr NoF w w' := by
  obtain ⟨_, _, ⟨te, pe, es⟩, ⟨tr, pr, er⟩, _⟩ := hT
  have hs : (bs l).size ≤ 281474976710656 := by rw [bs_size]; omega
  have hs2 : (bs l).size ≤ 9223372036854775806 := by rw [bs_size]; omega
  have HP : Hid (Calls Tryd.prog 32 #[.string (bs l), .int .i64 10, .int .i64 B] w fun e w' => (∃ x : Value, x.oneCell' = true ∧ e = .returned (.tuple #[.int .u64 (numP B l : Nat), x])) ∧ Fr NoF w w') := by
    unfold numP
    rcases hB with rfl | rfl
    · cases h : Lib.parseUintB 32 l with
      | ok u => exact (Any.strconv_ParseUint_10_at32_ok Tryd.laysPu14 (bs l) hs2 u h w).mono fun e w' ⟨he, hw⟩ => ⟨⟨_, rfl, he⟩, hw.elim (fun q => by rw [q]; exact Fr.refl _ _) (fun q => by rw [q]; exact Fr.ofBelow (Lib.bytesWorld_below _ _ _))⟩
      | range => exact (Any.strconv_ParseUint_10_at32_range Tryd.laysPu14 (bs l) hs h _ w er (.inr ⟨tr, pr, rfl⟩)).mono fun e w' ⟨N, he, _, _, hw⟩ => ⟨⟨_, rfl, he⟩, Fr.ofBelow hw⟩
      | _ => exact (Any.strconv_ParseUint_10_at32_syntax Tryd.laysPu14 (bs l) hs h _ w es (.inr ⟨te, pe, rfl⟩)).mono fun e w' ⟨N, he, _, _, hw⟩ => ⟨⟨_, rfl, he⟩, Fr.ofBelow hw⟩
    · cases h : Lib.parseUintB 64 l with
      | ok u => exact (Any.strconv_ParseUint_10_at64_ok Tryd.laysPu14 (bs l) hs2 u h w).mono fun e w' ⟨he, hw⟩ => ⟨⟨_, rfl, he⟩, hw.elim (fun q => by rw [q]; exact Fr.refl _ _) (fun q => by rw [q]; exact Fr.ofBelow (Lib.bytesWorld_below _ _ _))⟩
      | range => exact (Any.strconv_ParseUint_10_at64_range Tryd.laysPu14 (bs l) hs h _ w er (.inr ⟨tr, pr, rfl⟩)).mono fun e w' ⟨N, he, _, _, hw⟩ => ⟨⟨_, rfl, he⟩, Fr.ofBelow hw⟩
      | _ => exact (Any.strconv_ParseUint_10_at64_syntax Tryd.laysPu14 (bs l) hs h _ w es (.inr ⟨te, pe, rfl⟩)).mono fun e w' ⟨N, he, _, _, hw⟩ => ⟨⟨_, rfl, he⟩, Fr.ofBelow hw⟩
  generalize numP B l = r at *
  generalize bs l = s at *
  clear es er hs hs2 hB
  go_enter Tryd.func22, Tryd.ntmps22
  go_wp2_with fail
  refine HP.out.mono ?_
  rintro e w1 ⟨⟨x, hx, rfl⟩, h1⟩
  have H1 := Lib.hid h1
  clear h1
  go_wp2
  go_returns
  exact ⟨rfl, H1.out⟩
theorem run_index_in {P : Program} (t e : TypeId) (n size : Nat) (cs : Array Value) (k : IntKind) (i : Nat) (h : P.underlying t = some (.array n e)) (hs : ∀ w, (Go.sizeOf e).run P w = .ok size w) (hagg : ∀ w, (isAgg e).run P w = .ok true w) (ho : i < n) (W : World) :
    (Instr.index t (.agg cs) (.int k (i : Nat))).run P W = .ok (.agg (cs.extract (i * size) (i * size + size))) W := by
  have hn : (0 ≤ (i : Int) ∧ (i : Int) < (n : Int)) := by omega
  simp [Instr.index, run_underlying h, asIntOf, hn, hs, hagg, go_sem]
  intro q
  omega
/-- What the table of phrases holds, as one value. -/
def phrV : Value := .agg #[.agg #[.string (bs (nmL 0)), .bool false, .bool false], .agg #[.string (bs (nmL 1)), .bool true, .bool false], .agg #[.string (bs (nmL 2)), .bool true, .bool false], .agg #[.string (bs (nmL 3)), .bool true, .bool false], .agg #[.string (bs (nmL 4)), .bool true, .bool true], .agg #[.string (bs (nmL 5)), .bool true, .bool false], .agg #[.string (bs (nmL 6)), .bool false, .bool false], .agg #[.string (bs (nmL 7)), .bool true, .bool false]]
set_option maxHeartbeats 4000000 in
theorem kindOf_abs {w : World} {s : Nat → ByteArray} {pp vv : Nat → Bool} (hn : ∀ j, j < 8 → w.cell? ⟨0, j * 3, none⟩ = some (.string (s j)))
    (hp : ∀ j, j < 8 → w.cell? ⟨0, j * 3 + 1, none⟩ = some (.bool (pp j))) (hv : ∀ j, j < 8 → w.cell? ⟨0, j * 3 + 2, none⟩ = some (.bool (vv j))) (t : ByteArray) :
    Calls Tryd.prog 21 #[.string t] w fun e w' => ((∃ k : Nat, k < 8 ∧ e = .returned (.int .i64 k) ∧ s k = t) ∨ (e = .returned (.int .i64 (-1)) ∧ ∀ k, k < 8 → ¬ s k = t)) ∧ Fr NoF w w' := by
  have HS : ∀ k, k < 8 → k = 0 ∨ k = 1 ∨ k = 2 ∨ k = 3 ∨ k = 4 ∨ k = 5 ∨ k = 6 ∨ k = 7 := fun k h => by omega
  obtain ⟨cs, hcs⟩ : ∃ cs : List Value, cs = (List.range 24).map fun j => if j % 3 = 0 then .string (s (j / 3)) else if j % 3 = 1 then .bool (pp (j / 3)) else .bool (vv (j / 3)) := ⟨_, rfl⟩
  have hc : w.rangeAt 0 0 cs := fun j v hj => by
    rw [hcs, List.getElem?_map] at hj
    by_cases hl : j < 24
    · rw [List.getElem?_range hl] at hj
      simp only [Option.map_some, Option.some.injEq] at hj
      rw [← hj, Nat.zero_add]
      by_cases c1 : j % 3 = 0
      · rw [if_pos c1]
        have := hn (j / 3) (by omega)
        rw [show j / 3 * 3 = j by omega] at this
        exact this
      · rw [if_neg c1]
        by_cases c2 : j % 3 = 1
        · rw [if_pos c2]
          have := hp (j / 3) (by omega)
          rw [show j / 3 * 3 + 1 = j by omega] at this
          exact this
        · rw [if_neg c2]
          have := hv (j / 3) (by omega)
          rw [show j / 3 * 3 + 2 = j by omega] at this
          exact this
    · rw [List.getElem?_eq_none (by simpa using hl)] at hj
      cases hj
  have HI : Hid ((Tryd.prog.info? 69).map (·.size) = some cs.length) := by unfold Hid; rw [hcs]; kernel_rfl
  have HIX : Hid (∀ k : Nat, k < 8 → ∀ W, (Instr.index 69 (.agg cs.toArray) (.int .i64 (k : Nat))).run Tryd.prog W = .ok (.agg #[.string (s k), .bool (pp k), .bool (vv k)]) W) := fun k hk W => by
    rw [run_index_in _ _ 8 3 cs.toArray .i64 k Tryd.underlying69 Tryd.sizeOf68 Tryd.isAgg68 hk W, hcs]
    rcases HS k hk with rfl | rfl | rfl | rfl | rfl | rfl | rfl | rfl <;> rfl
  clear hn hp hv hcs HS
  go_enter Tryd.func21, Tryd.ntmps21
  go_wp2_with (with_reducible refine wpList_load_mid rfl _ _ rfl 0 0 rfl cs _ hc Tryd.underlying69 rfl HI.out ?_)
  generalize cs.toArray = V at *
  clear hc HI
  go_loopw [6] (fun i wr => ∃ k : Nat, k ≤ 8 ∧ i = .int .i64 k ∧ Hid (∀ j, j < k → ¬ s j = t) ∧ Fr NoF w wr) (fun i _ => 8 - (intOf i).toNat)
  case atStart => exact ⟨0, Nat.zero_le _, rfl, fun j hj => by omega, Fr.refl _ _⟩
  case round =>
    obtain ⟨k, hk, rfl, hN, hf⟩ := hrel
    have HF := Lib.hid hf
    clear hf
    by_cases hlt : k < 8
    · have hix := HIX.out k hlt
      by_cases he : s k = t
      · have HE := Lib.hid he
        have e1 : ((s k).toList == t.toList) = true := by rw [eqB]; exact decide_eq_true he
        clear he
        go_wp2
        go_returns
        exact ⟨.inl ⟨k, hlt, rfl, HE.out⟩, HF.out.alloc _⟩
      · have HE : Hid (∀ j, j < k + 1 → ¬ s j = t) := fun j hj => by
          rcases Nat.lt_succ_iff_lt_or_eq.1 hj with q | rfl
          · exact hN.out j q
          · exact he
        have e1 : ((s k).toList == t.toList) = false := by rw [eqB]; exact decide_eq_false he
        clear he
        go_wp2
        go_roundw
        case rel => exact ⟨k + 1, hlt, by go_num, HE, HF.out.alloc _⟩
        case measure => simp [intOf]; omega
    · obtain rfl : k = 8 := by omega
      go_wp2
      go_returns
      exact ⟨.inr ⟨rfl, hN.out⟩, HF.out⟩
theorem kind_find {l : List UInt8} {k : Nat} (hk : k < 8) (h : nmL k = l) (hn : ∀ i, i < k → ¬ nmL i = l) : kindL l = k := by
  subst h; exact kind_nm k hk
theorem kind_none {l : List UInt8} (hn : ∀ i, i < 8 → ¬ nmL i = l) : kindL l = -1 := by
  unfold kindL
  rw [List.find?_eq_none.2 (fun x hx => by simpa using hn x (List.mem_range.1 hx))]
theorem kindOf_calls {w : World} (hT : LT w) (l : List UInt8) :
    Calls Tryd.prog 21 #[.string (bs l)] w fun e w' => e = .returned (.int .i64 (kindL l)) ∧ Fr NoF w w' :=
  (kindOf_abs hT.tb.pn hT.tb.pi hT.tb.pv (bs l)).mono fun e w' ⟨h, f⟩ => ⟨by
    rcases h with ⟨k, hk, he, hs⟩ | ⟨he, hs⟩
    · have e1 : nmL k = l := bs_inj.1 hs
      rw [he, ← e1, kind_nm k hk]
    · rw [he, kind_none fun i hi q => hs i hi (by show bs (nmL i) = bs l; rw [q])], f⟩
end Go.Proofs.YtaebogmgjimkfaaDoor

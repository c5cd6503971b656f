/-
  Lines: that one is told (the law's told); what two parses of one text have in common.
-/
import Derived.Test.YtaebogmgjimkfaaDoorLinU
namespace Go.Proofs.YtaebogmgjimkfaaDoor
open Go.RowKit Go.Maps Go.Sort
set_option linter.unusedVariables false
set_option linter.unusedSimpArgs false
set_option maxRecDepth 100000
theorem parse_uniq {l : List UInt8} {k k' : Int} {id id' v v' err err' : Nat} (h : ParseR l k id v err) (h' : ParseR l k' id' v' err') : k = k' ∧ id = id' ∧ v = v' ∧ err = err' := by
  obtain ⟨a1, a2, a3⟩ := h
  obtain ⟨b1, b2, b3⟩ := h'
  rcases a3 with ⟨e1, n1, l1⟩ | ⟨e1, rfl, rfl, rfl, n1⟩
  · rcases b3 with ⟨e2, n2, l2⟩ | ⟨e2, rfl, rfl, rfl, n2⟩
    · obtain ⟨c1, c2, c3⟩ := line_inj a1 b1 a2 b2 (by rw [l1]; exact n1) (l1.trans l2.symm)
      exact ⟨c1, c2, c3, e1.trans e2.symm⟩
    · exact (n1 (n2 k id v a1 a2 l1)).elim
  · rcases b3 with ⟨e2, n2, l2⟩ | ⟨e2, rfl, rfl, rfl, n2⟩
    · exact (n2 (n1 k' id' v' b1 b2 l2)).elim
    · exact ⟨rfl, rfl, rfl, e1.trans e2.symm⟩
theorem parse_line {k : Int} {id v : Nat} (hid : id < 4294967296) (hv : v < 18446744073709551616) (h : ¬ lineL k id v = []) : ParseR (lineL k id v) k id v 0 := ⟨hid, hv, .inl ⟨rfl, h, rfl⟩⟩
theorem parse_empty : ParseR [] 0 0 0 8 := ⟨by decide, by decide, .inr ⟨rfl, rfl, rfl, rfl, fun _ _ _ _ _ _ => rfl⟩⟩
theorem line_len (k : Int) {id v : Nat} (hid : id < 4294967296) (hv : v < 18446744073709551616) : (lineL k id v).length ≤ 60 := by
  have h1 := dd_len_le id 20 (by omega) (by decide)
  have h2 := dd_len_le v 20 (by omega) (by decide)
  unfold lineL
  split
  · simp
  · split
    · simp
    · have h3 := nmL_len k.toNat (by omega)
      rw [List.length_append, List.length_append]
      have a1 : (if plainK k.toNat = true then ([] : List UInt8) else 32 :: Lib.decDigits id).length ≤ 21 := by split <;> simp <;> omega
      have a2 : (if k = 4 then 32 :: Lib.decDigits v else ([] : List UInt8)).length ≤ 21 := by split <;> simp <;> omega
      omega
theorem dd3 : Lib.decDigits 3 = [51] := Lib.decDigits_one (by decide)
theorem dd77 : Lib.decDigits 77 = [55, 55] := Lib.decDigits_two (by decide) (by decide)
theorem line_w : lineL 4 3 77 = [119, 114, 105, 116, 101, 32, 51, 32, 55, 55] := by
  unfold lineL
  rw [dd3, dd77]
  decide
theorem parse_w {k : Int} {id v err : Nat} (h : ParseR [119, 114, 105, 116, 101, 32, 51, 32, 55, 55] k id v err) : k = 4 ∧ id = 3 ∧ v = 77 ∧ err = 0 := by
  have := parse_line (k := 4) (id := 3) (v := 77) (by decide) (by decide) (by rw [line_w]; decide)
  rw [line_w] at this
  exact parse_uniq h this
theorem parse_w0 {k : Int} {id v err : Nat} (h : ParseR [119, 114, 105, 116, 101, 32, 48, 51, 32, 55, 55] k id v err) : err = 8 := by
  obtain ⟨a1, a2, a3⟩ := h
  rcases a3 with ⟨_, n1, l1⟩ | ⟨e, _⟩
  · have hb := line_back a1 a2 (by rw [l1]; exact n1)
    rw [l1] at hb
    have c1 : k = 4 := by rw [← hb.1]; decide
    have c2 : id = 3 := by rw [← hb.2.1]; decide
    have c3 : v = 77 := by rw [← hb.2.2]; decide
    subst c1 c2 c3
    rw [line_w] at l1
    exact absurd l1 (by decide)
  · exact e
theorem line_fl : lineL 6 0 0 = [102, 108, 117, 115, 104, 97, 108, 108] := by
  unfold lineL
  decide
theorem told_ok1 : toldL 0 0 1 0 = [111, 107, 32, 49] := by
  unfold toldL
  rw [if_neg (by decide), if_pos rfl, Lib.decDigits_one (by decide)]
  decide
set_option maxHeartbeats 4000000 in
theorem lawtold_calls {w : World} (hT : LT w) : Calls Tryd.prog 7 #[] w fun e w' => e = .returned (.bool true) ∧ Fr NoF w w' := by
  have HP1 : Hid (∀ W, Fr NoF w W → Calls Tryd.prog 9 #[.string ⟨#[119, 114, 105, 116, 101, 32, 51, 32, 55, 55]⟩] W fun e w' => e = .returned (.tuple #[.agg #[.int .i64 4, .int .u32 3, .int .u64 77], .int .i64 0]) ∧ Fr NoF W w') := fun W f =>
    (parse_calls (hT.fr f) (l := [119, 114, 105, 116, 101, 32, 51, 32, 55, 55]) (by decide)).mono fun e w' ⟨k, id, v, err, he, hp, g⟩ => by
      obtain ⟨rfl, rfl, rfl, rfl⟩ := parse_w hp
      exact ⟨he, g⟩
  have HP2 : Hid (∀ W, Fr NoF w W → Calls Tryd.prog 9 #[.string ⟨#[119, 114, 105, 116, 101, 32, 48, 51, 32, 55, 55]⟩] W fun e w' => (∃ (k : Int) (id v : Nat), e = .returned (.tuple #[.agg #[.int .i64 k, .int .u32 id, .int .u64 v], .int .i64 8])) ∧ Fr NoF W w') := fun W f =>
    (parse_calls (hT.fr f) (l := [119, 114, 105, 116, 101, 32, 48, 51, 32, 55, 55]) (by decide)).mono fun e w' ⟨k, id, v, err, he, hp, g⟩ => by
      obtain rfl := parse_w0 hp
      exact ⟨⟨k, id, v, he⟩, g⟩
  have HL : Hid (∀ W, Fr NoF w W → Calls Tryd.prog 11 #[.agg #[.int .i64 6, .int .u32 0, .int .u64 0]] W fun e w' => e = .returned (.string ⟨#[102, 108, 117, 115, 104, 97, 108, 108]⟩) ∧ Fr NoF W w') := fun W f => by
    have := line_calls (hT.fr f) 6 (id := 0) (v := 0) (by decide) (by decide)
    rw [line_fl] at this
    exact this
  have HT : Hid (∀ W, Fr NoF w W → Calls Tryd.prog 13 #[.agg #[.int .i64 0, .int .u32 0, .int .u64 0], .agg #[.int .i64 0, .int .u32 1, .int .u64 0]] W fun e w' => e = .returned (.string ⟨#[111, 107, 32, 49]⟩) ∧ Fr NoF W w') := fun W f => by
    have := told_calls (hT.fr f) 0 (oi := 0) (ov := 0) (e := 0) (id := 1) (v := 0) (by decide) (by decide) (by decide)
    rw [told_ok1] at this
    exact this
  clear hT
  go_enter Tryd.func7, Tryd.ntmps7
  go_wp2_with fail
  refine (HP1.out _ (Fr.refl _ _)).mono ?_
  rintro e w1 ⟨rfl, h1⟩
  have H1 := Lib.hid h1
  clear h1
  have hb1 : Blk (w1.alloc (.cells #[.int .i64 4, .int .u32 3, .int .u64 77] 38)) w1.heap.size 3 (fun i => match i with | 0 => .int .i64 4 | 1 => .int .u32 3 | _ => .int .u64 77) := Blk.new w1 _ _ 3 _ _ rfl rfl (fun i hi => by
    match i, hi with
    | 0, _ | 1, _ | 2, _ => rfl)
  have HB1 := Lib.hid hb1
  clear hb1
  go_wp2_with fail
  refine (HP2.out _ (by repeat (first | exact H1.out | apply Fr.alloc))).mono ?_
  rintro e w2 ⟨⟨k, id, v, rfl⟩, h2⟩
  have hb2 := HB1.out.fr h2 (fun q => q)
  have d0 := hb2.cell (i := 0) (by omega)
  have d1 := hb2.cell (i := 1) (by omega)
  have d2 := hb2.cell (i := 2) (by omega)
  have dl := hb2.lt
  simp only at d0 d1 d2
  have H2 := Lib.hid (Fr.trans (F := NoF) (a := w) (by repeat (first | exact H1.out | apply Fr.alloc)) h2 (fun _ q => q.elim))
  clear hb2 h2 HB1
  go_wp2_with fail
  refine (HL.out _ (by repeat (first | exact H2.out | apply Fr.alloc))).mono ?_
  rintro e w3 ⟨rfl, h3⟩
  have H3 := Lib.hid (Fr.trans (F := NoF) (a := w) (by repeat (first | exact H2.out | apply Fr.alloc)) h3 (fun _ q => q.elim))
  clear h3
  go_wp2_with fail
  refine (HT.out _ (by repeat (first | exact H3.out | apply Fr.alloc))).mono ?_
  rintro e w4 ⟨rfl, h4⟩
  have H4 := Lib.hid (Fr.trans (F := NoF) (a := w) (by repeat (first | exact H3.out | apply Fr.alloc)) h4 (fun _ q => q.elim))
  clear h4
  go_wp2
  go_returns
  exact ⟨rfl, H4.out⟩
end Go.Proofs.YtaebogmgjimkfaaDoor

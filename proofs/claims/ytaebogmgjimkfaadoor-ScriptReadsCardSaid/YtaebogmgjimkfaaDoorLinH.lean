/-
  Lines, the program's: Line, Word, Told.
-/
import Derived.Test.YtaebogmgjimkfaaDoorLinG
namespace Go.Proofs.YtaebogmgjimkfaaDoor
open Go.RowKit Go.Maps Go.Sort
set_option linter.unusedVariables false
set_option linter.unusedSimpArgs false
set_option maxRecDepth 100000
theorem line_in {k : Nat} (hk : k < 8) (id v : Nat) : lineL k id v = if idZ k = false ∧ ¬ id = 0 ∨ vZ k = false ∧ ¬ v = 0 then [] else nmL k ++ (if idZ k = true then 32 :: Lib.decDigits id else []) ++ (if vZ k = true then 32 :: Lib.decDigits v else []) := by
  unfold lineL
  rw [if_neg (by omega)]
  have e1 : (k : Int).toNat = k := by omega
  have e2 : ((k : Int) = 4) ↔ vZ k = true := by unfold vZ; rw [beq_iff_eq]; omega
  have e3 : plainK k = true ↔ idZ k = false := by
    unfold plainK idZ
    cases (k == 0 || k == 6) <;> simp
  rw [e1]
  cases c1 : idZ k <;> cases c2 : vZ k <;> simp [e2, e3, c1, c2]
theorem line_out {k : Int} (hk : k < 0 ∨ 7 < k) (id v : Nat) : lineL k id v = [] := by unfold lineL; rw [if_pos hk]
theorem nmL_len : ∀ k, k < 8 → (nmL k).length ≤ 8 := by decide
set_option maxHeartbeats 2000000 in
theorem line_calls_in {w : World} (hT : LT w) {k : Nat} (hk : k < 8) {id v : Nat} (hid : id < 4294967296) (hv : v < 18446744073709551616) :
    Calls Tryd.prog 11 #[.agg #[.int .i64 (k : Nat), .int .u32 id, .int .u64 v]] w fun e w' => e = .returned (.string (bs (lineL k id v))) ∧ Fr NoF w w' := by
  have n1 := hT.tb.pn k hk
  have n2 := hT.tb.pi k hk
  have n3 := hT.tb.pv k hk
  have hl := World.block_lt_of_cell? (w := w) (a := ⟨0, 0, none⟩) (hT.tb.pn 0 (by decide))
  have hnl := nmL_len k hk
  have HB : Hid (∀ W, Fr NoF w W → ∀ l : List UInt8, l.length ≤ 1000 → ∀ u : Nat, u < 18446744073709551616 → Calls Tryd.prog 26 #[.string (bs l), .int .u64 u] W fun e w' => e = .returned (.string (bs (l ++ 32 :: Lib.decDigits u))) ∧ Fr NoF W w') := fun W f l h u hu => behind_calls (hT.fr f) (by omega) hu
  have hid2 : id < 18446744073709551616 := by omega
  have hdl := dd_len_le id 20 (by omega) (by decide)
  have HE := Lib.hid (line_in hk id v)
  rw [show nameZ k = bs (nmL k) from rfl] at n1
  generalize hr : lineL k id v = r at *
  have HR := Lib.hid hr
  clear hT hr
  have hvi : vZ k = true → idZ k = true := by
    have : ∀ k, k < 8 → vZ k = true → idZ k = true := by decide
    exact this k hk
  have hkI : (k : Int) < 8 := by omega
  cases c1 : idZ k <;> cases c2 : vZ k <;> rw [c1] at n2 HE hvi <;> rw [c2] at n3 HE hvi
  · clear hvi
    by_cases z1 : id = 0
    · subst z1
      by_cases z2 : v = 0
      · subst z2
        have he : r = nmL k := by simpa using HE.out
        rw [he]
        clear HE HB HR he hid2 hdl hid hv
        generalize bs (nmL k) = s at *
        go_enter Tryd.func11, Tryd.ntmps11
        go_wp2
        go_returns
        exact ⟨rfl, ((Fr.refl _ _).alloc _).alloc _⟩
      · have he : r = [] := by simpa [z2] using HE.out
        rw [he]
        have q1 : ((v : Int) != 0) = true := by simp; omega
        have q2 : ((v : Int) == 0) = false := by simp; omega
        clear HE HB HR he hid2 hdl hid hv z2
        generalize bs (nmL k) = s at *
        go_enter Tryd.func11, Tryd.ntmps11
        go_wp2
        go_returns
        exact ⟨rfl, ((Fr.refl _ _).alloc _).alloc _⟩
    · have he : r = [] := by simpa [z1] using HE.out
      rw [he]
      have q1 : ((id : Int) != 0) = true := by simp; omega
      have q2 : ((id : Int) == 0) = false := by simp; omega
      clear HE HB HR he hid2 hdl hid hv z1
      generalize bs (nmL k) = s at *
      go_enter Tryd.func11, Tryd.ntmps11
      go_wp2
      go_returns
      exact ⟨rfl, ((Fr.refl _ _).alloc _).alloc _⟩
  · exact absurd (hvi rfl) (by decide)
  · clear hvi
    by_cases z2 : v = 0
    · subst z2
      have he : r = nmL k ++ 32 :: Lib.decDigits id := by simpa using HE.out
      rw [he]
      have HI := Lib.hid (And.intro hid2 (And.intro hnl True.intro))
      have ew : IntKind.u64.wrap (id : Int) = (id : Int) := by unfold IntKind.wrap; simp [IntKind.bits, IntKind.signed]; omega
      clear HE HR he hdl hid hv hid2 hnl
      by_cases z1 : id = 0
      · subst z1
        clear ew
        go_enter Tryd.func11, Tryd.ntmps11
        go_wp2_with fail
        refine (HB.out _ (((Fr.refl _ _).alloc _).alloc _) (nmL k) (by have := HI.out.2.1; omega) 0 HI.out.1).mono ?_
        rintro e w1 ⟨rfl, h1⟩
        have hb1 : Blk w1 w.heap.size 3 (fun i => match i with | 0 => .int .i64 (k : Nat) | 1 => .int .u32 (0 : Nat) | _ => .int .u64 (0 : Nat)) := ((Blk.new w _ _ 3 _ _ rfl rfl (fun i hi => by
          match i, hi with
          | 0, _ | 1, _ | 2, _ => rfl)).alloc _).fr h1 (fun q => q)
        have hb2 : Blk w1 (w.heap.size + 1) 3 (fun i => match i with | 0 => .string (bs (nmL k)) | 1 => .bool true | _ => .bool false) := (Blk.new _ _ _ 3 _ _ (World.size_alloc ..).symm rfl (fun i hi => by
          match i, hi with
          | 0, _ | 1, _ | 2, _ => rfl)).fr h1 (fun q => q)
        have d2 := hb1.cell (i := 2) (by omega)
        have e2 := hb2.cell (i := 2) (by omega)
        simp only at d2 e2
        have H1 := Lib.hid (Fr.trans (((Fr.refl NoF w).alloc _).alloc _) h1 (fun _ q => q.elim))
        clear h1 hb1 hb2
        go_wp2
        go_returns
        exact ⟨rfl, H1.out⟩
      · have q1 : ((id : Int) != 0) = true := by simp; omega
        have q2 : ((id : Int) == 0) = false := by simp; omega
        clear z1
        go_enter Tryd.func11, Tryd.ntmps11
        go_wp2_with fail
        refine (HB.out _ (((Fr.refl _ _).alloc _).alloc _) (nmL k) (by have := HI.out.2.1; omega) id HI.out.1).mono ?_
        rintro e w1 ⟨rfl, h1⟩
        have hb1 : Blk w1 w.heap.size 3 (fun i => match i with | 0 => .int .i64 (k : Nat) | 1 => .int .u32 (id : Nat) | _ => .int .u64 (0 : Nat)) := ((Blk.new w _ _ 3 _ _ rfl rfl (fun i hi => by
          match i, hi with
          | 0, _ | 1, _ | 2, _ => rfl)).alloc _).fr h1 (fun q => q)
        have hb2 : Blk w1 (w.heap.size + 1) 3 (fun i => match i with | 0 => .string (bs (nmL k)) | 1 => .bool true | _ => .bool false) := (Blk.new _ _ _ 3 _ _ (World.size_alloc ..).symm rfl (fun i hi => by
          match i, hi with
          | 0, _ | 1, _ | 2, _ => rfl)).fr h1 (fun q => q)
        have d2 := hb1.cell (i := 2) (by omega)
        have e2 := hb2.cell (i := 2) (by omega)
        simp only at d2 e2
        have H1 := Lib.hid (Fr.trans (((Fr.refl NoF w).alloc _).alloc _) h1 (fun _ q => q.elim))
        clear h1 hb1 hb2
        go_wp2
        go_returns
        exact ⟨rfl, H1.out⟩
    · have he : r = [] := by simpa [z2] using HE.out
      rw [he]
      have q1 : ((v : Int) != 0) = true := by simp; omega
      have q2 : ((v : Int) == 0) = false := by simp; omega
      clear HE HB HR he hid2 hdl hid hv z2
      generalize bs (nmL k) = s at *
      go_enter Tryd.func11, Tryd.ntmps11
      go_wp2
      all_goals
        go_returns
        exact ⟨rfl, ((Fr.refl _ _).alloc _).alloc _⟩
  · clear hvi
    have he : r = nmL k ++ 32 :: (Lib.decDigits id ++ 32 :: Lib.decDigits v) := by simpa using HE.out
    rw [he]
    have HI := Lib.hid (And.intro hid2 (And.intro hnl (And.intro hdl hv)))
    have ew : IntKind.u64.wrap (id : Int) = (id : Int) := by unfold IntKind.wrap; simp [IntKind.bits, IntKind.signed]; omega
    clear HE HR he hdl hid hv hid2 hnl
    by_cases z1 : id = 0
    · subst z1
      clear ew
      by_cases z2 : v = 0
      · subst z2
        go_enter Tryd.func11, Tryd.ntmps11
        go_wp2_with fail
        refine (HB.out _ (((Fr.refl _ _).alloc _).alloc _) (nmL k) (by have := HI.out.2.1; omega) 0 HI.out.1).mono ?_
        rintro e w1 ⟨rfl, h1⟩
        have hb1 : Blk w1 w.heap.size 3 (fun i => match i with | 0 => .int .i64 (k : Nat) | 1 => .int .u32 (0 : Nat) | _ => .int .u64 (0 : Nat)) := ((Blk.new w _ _ 3 _ _ rfl rfl (fun i hi => by
          match i, hi with
          | 0, _ | 1, _ | 2, _ => rfl)).alloc _).fr h1 (fun q => q)
        have hb2 : Blk w1 (w.heap.size + 1) 3 (fun i => match i with | 0 => .string (bs (nmL k)) | 1 => .bool true | _ => .bool true) := (Blk.new _ _ _ 3 _ _ (World.size_alloc ..).symm rfl (fun i hi => by
          match i, hi with
          | 0, _ | 1, _ | 2, _ => rfl)).fr h1 (fun q => q)
        have d2 := hb1.cell (i := 2) (by omega)
        have e2 := hb2.cell (i := 2) (by omega)
        simp only at d2 e2
        have H1 := Lib.hid (Fr.trans (((Fr.refl NoF w).alloc _).alloc _) h1 (fun _ q => q.elim))
        clear h1 hb1 hb2
        go_wp2_with fail
        refine (HB.out _ (by repeat (first | exact H1.out | apply Fr.alloc)) (nmL k ++ 32 :: Lib.decDigits 0) (by have := HI.out.2.1; have := HI.out.2.2.1; simp; omega) 0 HI.out.2.2.2).mono ?_
        rintro e w2 ⟨rfl, h2⟩
        have H2 := Lib.hid (Fr.trans (F := NoF) (a := w) (by repeat (first | exact H1.out | apply Fr.alloc)) h2 (fun _ q => q.elim))
        clear h2
        go_wp2
        go_returns
        exact ⟨rfl, H2.out⟩
      · have q3 : ((v : Int) != 0) = true := by simp; omega
        have q4 : ((v : Int) == 0) = false := by simp; omega
        clear z2
        go_enter Tryd.func11, Tryd.ntmps11
        go_wp2_with fail
        refine (HB.out _ (((Fr.refl _ _).alloc _).alloc _) (nmL k) (by have := HI.out.2.1; omega) 0 HI.out.1).mono ?_
        rintro e w1 ⟨rfl, h1⟩
        have hb1 : Blk w1 w.heap.size 3 (fun i => match i with | 0 => .int .i64 (k : Nat) | 1 => .int .u32 (0 : Nat) | _ => .int .u64 (v : Nat)) := ((Blk.new w _ _ 3 _ _ rfl rfl (fun i hi => by
          match i, hi with
          | 0, _ | 1, _ | 2, _ => rfl)).alloc _).fr h1 (fun q => q)
        have hb2 : Blk w1 (w.heap.size + 1) 3 (fun i => match i with | 0 => .string (bs (nmL k)) | 1 => .bool true | _ => .bool true) := (Blk.new _ _ _ 3 _ _ (World.size_alloc ..).symm rfl (fun i hi => by
          match i, hi with
          | 0, _ | 1, _ | 2, _ => rfl)).fr h1 (fun q => q)
        have d2 := hb1.cell (i := 2) (by omega)
        have e2 := hb2.cell (i := 2) (by omega)
        simp only at d2 e2
        have H1 := Lib.hid (Fr.trans (((Fr.refl NoF w).alloc _).alloc _) h1 (fun _ q => q.elim))
        clear h1 hb1 hb2
        go_wp2_with fail
        refine (HB.out _ (by repeat (first | exact H1.out | apply Fr.alloc)) (nmL k ++ 32 :: Lib.decDigits 0) (by have := HI.out.2.1; have := HI.out.2.2.1; simp; omega) v HI.out.2.2.2).mono ?_
        rintro e w2 ⟨rfl, h2⟩
        have H2 := Lib.hid (Fr.trans (F := NoF) (a := w) (by repeat (first | exact H1.out | apply Fr.alloc)) h2 (fun _ q => q.elim))
        clear h2
        go_wp2
        go_returns
        exact ⟨rfl, H2.out⟩
    · have q1 : ((id : Int) != 0) = true := by simp; omega
      have q2 : ((id : Int) == 0) = false := by simp; omega
      clear z1
      by_cases z2 : v = 0
      · subst z2
        go_enter Tryd.func11, Tryd.ntmps11
        go_wp2_with fail
        refine (HB.out _ (((Fr.refl _ _).alloc _).alloc _) (nmL k) (by have := HI.out.2.1; omega) id HI.out.1).mono ?_
        rintro e w1 ⟨rfl, h1⟩
        have hb1 : Blk w1 w.heap.size 3 (fun i => match i with | 0 => .int .i64 (k : Nat) | 1 => .int .u32 (id : Nat) | _ => .int .u64 (0 : Nat)) := ((Blk.new w _ _ 3 _ _ rfl rfl (fun i hi => by
          match i, hi with
          | 0, _ | 1, _ | 2, _ => rfl)).alloc _).fr h1 (fun q => q)
        have hb2 : Blk w1 (w.heap.size + 1) 3 (fun i => match i with | 0 => .string (bs (nmL k)) | 1 => .bool true | _ => .bool true) := (Blk.new _ _ _ 3 _ _ (World.size_alloc ..).symm rfl (fun i hi => by
          match i, hi with
          | 0, _ | 1, _ | 2, _ => rfl)).fr h1 (fun q => q)
        have d2 := hb1.cell (i := 2) (by omega)
        have e2 := hb2.cell (i := 2) (by omega)
        simp only at d2 e2
        have H1 := Lib.hid (Fr.trans (((Fr.refl NoF w).alloc _).alloc _) h1 (fun _ q => q.elim))
        clear h1 hb1 hb2
        go_wp2_with fail
        refine (HB.out _ (by repeat (first | exact H1.out | apply Fr.alloc)) (nmL k ++ 32 :: Lib.decDigits id) (by have := HI.out.2.1; have := HI.out.2.2.1; simp; omega) 0 HI.out.2.2.2).mono ?_
        rintro e w2 ⟨rfl, h2⟩
        have H2 := Lib.hid (Fr.trans (F := NoF) (a := w) (by repeat (first | exact H1.out | apply Fr.alloc)) h2 (fun _ q => q.elim))
        clear h2
        go_wp2
        go_returns
        exact ⟨rfl, H2.out⟩
      · have q3 : ((v : Int) != 0) = true := by simp; omega
        have q4 : ((v : Int) == 0) = false := by simp; omega
        clear z2
        go_enter Tryd.func11, Tryd.ntmps11
        go_wp2_with fail
        refine (HB.out _ (((Fr.refl _ _).alloc _).alloc _) (nmL k) (by have := HI.out.2.1; omega) id HI.out.1).mono ?_
        rintro e w1 ⟨rfl, h1⟩
        have hb1 : Blk w1 w.heap.size 3 (fun i => match i with | 0 => .int .i64 (k : Nat) | 1 => .int .u32 (id : Nat) | _ => .int .u64 (v : Nat)) := ((Blk.new w _ _ 3 _ _ rfl rfl (fun i hi => by
          match i, hi with
          | 0, _ | 1, _ | 2, _ => rfl)).alloc _).fr h1 (fun q => q)
        have hb2 : Blk w1 (w.heap.size + 1) 3 (fun i => match i with | 0 => .string (bs (nmL k)) | 1 => .bool true | _ => .bool true) := (Blk.new _ _ _ 3 _ _ (World.size_alloc ..).symm rfl (fun i hi => by
          match i, hi with
          | 0, _ | 1, _ | 2, _ => rfl)).fr h1 (fun q => q)
        have d2 := hb1.cell (i := 2) (by omega)
        have e2 := hb2.cell (i := 2) (by omega)
        simp only at d2 e2
        have H1 := Lib.hid (Fr.trans (((Fr.refl NoF w).alloc _).alloc _) h1 (fun _ q => q.elim))
        clear h1 hb1 hb2
        go_wp2_with fail
        refine (HB.out _ (by repeat (first | exact H1.out | apply Fr.alloc)) (nmL k ++ 32 :: Lib.decDigits id) (by have := HI.out.2.1; have := HI.out.2.2.1; simp; omega) v HI.out.2.2.2).mono ?_
        rintro e w2 ⟨rfl, h2⟩
        have H2 := Lib.hid (Fr.trans (F := NoF) (a := w) (by repeat (first | exact H1.out | apply Fr.alloc)) h2 (fun _ q => q.elim))
        clear h2
        go_wp2
        go_returns
        exact ⟨rfl, H2.out⟩
theorem line_calls_out {w : World} {k : Int} (hk : k < 0 ∨ 7 < k) {id v : Nat} :
    Calls Tryd.prog 11 #[.agg #[.int .i64 k, .int .u32 id, .int .u64 v]] w fun e w' => e = .returned (.string (bs (lineL k id v))) ∧ Fr NoF w w' := by
  rw [line_out hk]
  by_cases h1 : k < 0
  · clear hk
    go_enter Tryd.func11, Tryd.ntmps11
    go_wp2
    go_returns
    exact ⟨rfl, (Fr.refl _ _).alloc _⟩
  · have h2 : 8 ≤ k := by omega
    clear hk
    go_enter Tryd.func11, Tryd.ntmps11
    go_wp2
    go_returns
    exact ⟨rfl, (Fr.refl _ _).alloc _⟩
theorem line_calls {w : World} (hT : LT w) (k : Int) {id v : Nat} (hid : id < 4294967296) (hv : v < 18446744073709551616) :
    Calls Tryd.prog 11 #[.agg #[.int .i64 k, .int .u32 id, .int .u64 v]] w fun e w' => e = .returned (.string (bs (lineL k id v))) ∧ Fr NoF w w' := by
  by_cases h : k < 0 ∨ 7 < k
  · exact line_calls_out h
  · obtain ⟨n, rfl⟩ := Int.eq_ofNat_of_zero_le (show 0 ≤ k by omega)
    exact line_calls_in hT (by omega) hid hv
end Go.Proofs.YtaebogmgjimkfaaDoor

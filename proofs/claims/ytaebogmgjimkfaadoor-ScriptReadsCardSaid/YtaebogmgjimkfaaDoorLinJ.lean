/-
  Lines, the program's: Told.
-/
import Derived.Test.YtaebogmgjimkfaaDoorLinI
namespace Go.Proofs.YtaebogmgjimkfaaDoor
open Go.RowKit Go.Maps Go.Sort
set_option linter.unusedVariables false
set_option linter.unusedSimpArgs false
set_option maxRecDepth 100000
/-- An answer in words. -/
def toldL (k : Int) (e id v : Nat) : List UInt8 := if ¬ e = 0 then wordL e else if k = 0 then wordL 0 ++ 32 :: Lib.decDigits id else if k = 3 then wordL 0 ++ 32 :: Lib.decDigits v else wordL 0
set_option maxHeartbeats 2000000 in
theorem told_calls {w : World} (hT : LT w) (k : Int) {oi ov e id v : Nat} (he : e < 9) (hid : id < 4294967296) (hv : v < 18446744073709551616) :
    Calls Tryd.prog 13 #[.agg #[.int .i64 k, .int .u32 oi, .int .u64 ov], .agg #[.int .i64 e, .int .u32 id, .int .u64 v]] w fun e' w' => e' = .returned (.string (bs (toldL k e id v))) ∧ Fr NoF w w' := by
  have HB : Hid (∀ W, Fr NoF w W → ∀ l : List UInt8, l.length ≤ 1000 → ∀ u : Nat, u < 18446744073709551616 → Calls Tryd.prog 26 #[.string (bs l), .int .u64 u] W fun e w' => e = .returned (.string (bs (l ++ 32 :: Lib.decDigits u))) ∧ Fr NoF W w') := fun W f l h u hu => behind_calls (hT.fr f) (by omega) hu
  have HW : Hid (∀ W, Calls Tryd.prog 28 #[.int .i64 (e : Nat)] W fun e' w' => e' = .returned (.string (bs (wordL e))) ∧ Fr NoF W w') := fun W => word_calls he
  have ew : IntKind.u64.wrap (id : Int) = (id : Int) := IntWalk.u64_in _ (by omega)
  have hid2 : id < 18446744073709551616 := by omega
  unfold toldL
  by_cases z : e = 0
  · subst z
    rw [if_neg (by simp)]
    by_cases k0 : k = 0
    · subst k0
      have HI := Lib.hid hid2
      rw [if_pos rfl]
      clear hT he hid hv hid2
      go_enter Tryd.func13, Tryd.ntmps13
      go_wp2_with fail
      refine (HW.out _).mono ?_
      rintro e w1 ⟨rfl, h1⟩
      have hb1 : Blk w1 w.heap.size 3 (fun i => match i with | 0 => .int .i64 (0) | 1 => .int .u32 (oi : Nat) | _ => .int .u64 (ov : Nat)) := ((Blk.new w _ _ 3 _ _ rfl rfl (fun i hi => by
        match i, hi with
        | 0, _ | 1, _ | 2, _ => rfl)).alloc _).fr h1 (fun q => q)
      have hb2 : Blk w1 (w.heap.size + 1) 3 (fun i => match i with | 0 => .int .i64 (0 : Nat) | 1 => .int .u32 (id : Nat) | _ => .int .u64 (v : Nat)) := (Blk.new _ _ _ 3 _ _ (World.size_alloc ..).symm rfl (fun i hi => by
        match i, hi with
        | 0, _ | 1, _ | 2, _ => rfl)).fr h1 (fun q => q)
      have d0 := hb1.cell (i := 0) (by omega)
      have e0 := hb2.cell (i := 0) (by omega)
      have e1 := hb2.cell (i := 1) (by omega)
      have e2 := hb2.cell (i := 2) (by omega)
      simp only at d0 e0 e1 e2
      have H1 := Lib.hid (Fr.trans (((Fr.refl NoF w).alloc _).alloc _) h1 (fun _ q => q.elim))
      clear h1 hb1 hb2
      go_wp2_with fail
      refine (HB.out _ (by repeat (first | exact H1.out | apply Fr.alloc)) (wordL 0) (by decide) id HI.out).mono ?_
      rintro e w2 ⟨rfl, h2⟩
      have H2 := Lib.hid (Fr.trans (F := NoF) (a := w) (by repeat (first | exact H1.out | apply Fr.alloc)) h2 (fun _ q => q.elim))
      clear h2
      go_wp2
      go_returns
      exact ⟨rfl, H2.out⟩
    · by_cases k3 : k = 3
      · subst k3
        have HI := Lib.hid hv
        rw [if_neg (by decide), if_pos rfl]
        clear hT he hid hv hid2 k0 ew
        go_enter Tryd.func13, Tryd.ntmps13
        go_wp2_with fail
        refine (HW.out _).mono ?_
        rintro e w1 ⟨rfl, h1⟩
        have hb1 : Blk w1 w.heap.size 3 (fun i => match i with | 0 => .int .i64 (3) | 1 => .int .u32 (oi : Nat) | _ => .int .u64 (ov : Nat)) := ((Blk.new w _ _ 3 _ _ rfl rfl (fun i hi => by
          match i, hi with
          | 0, _ | 1, _ | 2, _ => rfl)).alloc _).fr h1 (fun q => q)
        have hb2 : Blk w1 (w.heap.size + 1) 3 (fun i => match i with | 0 => .int .i64 (0 : Nat) | 1 => .int .u32 (id : Nat) | _ => .int .u64 (v : Nat)) := (Blk.new _ _ _ 3 _ _ (World.size_alloc ..).symm rfl (fun i hi => by
          match i, hi with
          | 0, _ | 1, _ | 2, _ => rfl)).fr h1 (fun q => q)
        have d0 := hb1.cell (i := 0) (by omega)
        have e0 := hb2.cell (i := 0) (by omega)
        have e1 := hb2.cell (i := 1) (by omega)
        have e2 := hb2.cell (i := 2) (by omega)
        simp only at d0 e0 e1 e2
        have H1 := Lib.hid (Fr.trans (((Fr.refl NoF w).alloc _).alloc _) h1 (fun _ q => q.elim))
        clear h1 hb1 hb2
        go_wp2_with fail
        refine (HB.out _ (by repeat (first | exact H1.out | apply Fr.alloc)) (wordL 0) (by decide) v HI.out).mono ?_
        rintro e w2 ⟨rfl, h2⟩
        have H2 := Lib.hid (Fr.trans (F := NoF) (a := w) (by repeat (first | exact H1.out | apply Fr.alloc)) h2 (fun _ q => q.elim))
        clear h2
        go_wp2
        go_returns
        exact ⟨rfl, H2.out⟩
      · rw [if_neg k0, if_neg k3]
        have q1 : (k == 0) = false := by simpa using k0
        have q2 : (k == 3) = false := by simpa using k3
        clear hT he hid hv hid2 ew HB k0 k3
        go_enter Tryd.func13, Tryd.ntmps13
        go_wp2_with fail
        refine (HW.out _).mono ?_
        rintro e w1 ⟨rfl, h1⟩
        have hb1 : Blk w1 w.heap.size 3 (fun i => match i with | 0 => .int .i64 (k) | 1 => .int .u32 (oi : Nat) | _ => .int .u64 (ov : Nat)) := ((Blk.new w _ _ 3 _ _ rfl rfl (fun i hi => by
          match i, hi with
          | 0, _ | 1, _ | 2, _ => rfl)).alloc _).fr h1 (fun q => q)
        have hb2 : Blk w1 (w.heap.size + 1) 3 (fun i => match i with | 0 => .int .i64 (0 : Nat) | 1 => .int .u32 (id : Nat) | _ => .int .u64 (v : Nat)) := (Blk.new _ _ _ 3 _ _ (World.size_alloc ..).symm rfl (fun i hi => by
          match i, hi with
          | 0, _ | 1, _ | 2, _ => rfl)).fr h1 (fun q => q)
        have d0 := hb1.cell (i := 0) (by omega)
        have e0 := hb2.cell (i := 0) (by omega)
        have e1 := hb2.cell (i := 1) (by omega)
        have e2 := hb2.cell (i := 2) (by omega)
        simp only at d0 e0 e1 e2
        have H1 := Lib.hid (Fr.trans (((Fr.refl NoF w).alloc _).alloc _) h1 (fun _ q => q.elim))
        clear h1 hb1 hb2
        go_wp2
        go_returns
        exact ⟨rfl, H1.out⟩
  · rw [if_pos z]
    have q1 : ((e : Int) != 0) = true := by simp; omega
    have q2 : ((e : Int) == 0) = false := by simp; omega
    clear hT he hid hv hid2 ew HB z
    go_enter Tryd.func13, Tryd.ntmps13
    go_wp2_with fail
    refine (HW.out _).mono ?_
    rintro e w1 ⟨rfl, h1⟩
    have hb1 : Blk w1 w.heap.size 3 (fun i => match i with | 0 => .int .i64 (k) | 1 => .int .u32 (oi : Nat) | _ => .int .u64 (ov : Nat)) := ((Blk.new w _ _ 3 _ _ rfl rfl (fun i hi => by
      match i, hi with
      | 0, _ | 1, _ | 2, _ => rfl)).alloc _).fr h1 (fun q => q)
    have hb2 : Blk w1 (w.heap.size + 1) 3 (fun i => match i with | 0 => .int .i64 (e : Nat) | 1 => .int .u32 (id : Nat) | _ => .int .u64 (v : Nat)) := (Blk.new _ _ _ 3 _ _ (World.size_alloc ..).symm rfl (fun i hi => by
      match i, hi with
      | 0, _ | 1, _ | 2, _ => rfl)).fr h1 (fun q => q)
    have d0 := hb1.cell (i := 0) (by omega)
    have e0 := hb2.cell (i := 0) (by omega)
    have e1 := hb2.cell (i := 1) (by omega)
    have e2 := hb2.cell (i := 2) (by omega)
    simp only at d0 e0 e1 e2
    have H1 := Lib.hid (Fr.trans (((Fr.refl NoF w).alloc _).alloc _) h1 (fun _ q => q.elim))
    clear h1 hb1 hb2
    go_wp2
    go_returns
    exact ⟨rfl, H1.out⟩
end Go.Proofs.YtaebogmgjimkfaaDoor

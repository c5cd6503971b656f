/-
  Lines, the document's: names, Line, Word, Told, and To.
-/
import Derived.Test.YtaebogmgjimkfaaDoorLinR
import Derived.RegionTactic
import Derived.Deep.RegionWith
import Derived.Deep.Cut
namespace Go.Proofs.YtaebogmgjimkfaaDoor
open Go.RowKit Go.Maps Go.Sort
set_option linter.unusedVariables false
set_option linter.unusedSimpArgs false
set_option maxRecDepth 100000
theorem names_calls (w : World) : Calls Tryd.prog 24 #[] w fun e w' => e = .returned (.slice (some ⟨w.heap.size, 0, none⟩) 8 8) ∧ Blk w' w.heap.size 8 (fun i => .string (bs (nmL i))) ∧ Fr NoF w w' := by
  go_enter Tryd.func24, Tryd.ntmps24
  go_wp2
  go_returns
  refine ⟨rfl, Blk.new _ _ _ 8 _ _ rfl rfl (fun i hi => ?_), (Fr.refl _ _).alloc _⟩
  match i, hi with
  | 0, _ | 1, _ | 2, _ | 3, _ | 4, _ | 5, _ | 6, _ | 7, _ => rfl
theorem blk_three' (w : World) (y1 y2 y3 u1 u2 u3 : Value) {t t' : TypeId} : Blk ((w.alloc (.cells #[y1, y2, y3] t')).alloc (.cells #[u1, u2, u3] t)) (w.heap.size + 1) 3 (fun i => if i = 0 then u1 else if i = 1 then u2 else u3) :=
  Blk.new _ _ _ _ _ _ (by simp) rfl (fun i hi => by
    match i, hi with
    | 0, _ => rfl
    | 1, _ => rfl
    | 2, _ => rfl)
theorem to_calls (k id x : Int) (w : World) : Calls Tryd.prog 8 #[.agg #[.int .i64 k, .int .u32 id, .int .u64 x]] w fun e w' => e = .returned (.agg #[.int .i64 k, .int .u32 id, .int .u64 x]) ∧ Fr NoF w w' := by
  go_enter Tryd.func8, Tryd.ntmps8
  go_wp2
  (try simp only [Exit.inBlock, Exit.then])
  refine bodyPost_ret (res_blk Tryd.results8 _ _ (blk_three' w _ _ _ _ _ _) rfl Tryd.underlying38 rfl (by kernel_rfl)) rfl ?_
  exact ⟨rfl, ((Fr.refl NoF w).alloc _).alloc _⟩
theorem nm_blk {w : World} {m n N : Nat} {c : Nat → Value} (h : Blk w m N c) (e : m = n) : Blk w n N c := e ▸ h
set_option maxHeartbeats 8000000 in
theorem rword_calls {w : World} {k : Nat} (hk : k < 9) : Calls Tryd.prog 29 #[.int .i64 (k : Nat)] w fun e w' => e = .returned (.string (bs (wordL k))) ∧ Fr NoF w w' := by
  match k, hk with
  | 0, _ | 1, _ | 2, _ | 3, _ | 4, _ | 5, _ | 6, _ | 7, _ | 8, _ =>
    go_enter Tryd.func29, Tryd.ntmps29
    go_wp2
    go_returns
    exact ⟨rfl, (Fr.refl _ _).alloc _⟩
theorem rline_calls_out {w : World} {k : Int} (hk : k < 0 ∨ 7 < k) {id v : Nat} :
    Calls Tryd.prog 12 #[.agg #[.int .i64 k, .int .u32 id, .int .u64 v]] w fun e w' => e = .returned (.string (bs (lineL k id v))) ∧ Fr NoF w w' := by
  rw [line_out hk]
  by_cases h1 : k < 0
  · clear hk
    go_enter Tryd.func12, Tryd.ntmps12
    go_wp2
    go_returns
    exact ⟨rfl, (Fr.refl _ _).alloc _⟩
  · have h2 : 7 < k := by omega
    clear hk
    go_enter Tryd.func12, Tryd.ntmps12
    go_wp2
    go_returns
    exact ⟨rfl, (Fr.refl _ _).alloc _⟩
theorem concat_runs {P : Program} (l : List UInt8) (u : Nat) (hl : l.length ≤ 1000) (hu : u < 18446744073709551616) : (∀ W, (Op.stringOp .add (bs l) ⟨#[32]⟩).run P W = .ok (.string (bs (l ++ [32]))) W) ∧ ∀ W, (Op.stringOp .add (bs (l ++ [32])) (bs (Lib.decDigits u))).run P W = .ok (.string (bs (l ++ 32 :: Lib.decDigits u))) W := by
  have hd := dd_len_le u 20 (by omega) (by decide)
  refine ⟨fun W => add_bs l [32] (by simp; omega) W, fun W => ?_⟩
  have := add_bs (P := P) (l ++ [32]) (Lib.decDigits u) (by simp; omega) W
  rw [List.append_assoc] at this
  exact this
set_option maxHeartbeats 4000000 in
theorem rline_calls_in {w : World} {k : Nat} (hk : k < 8) {id v : Nat} (hid : id < 4294967296) (hv : v < 18446744073709551616) :
    Calls Tryd.prog 12 #[.agg #[.int .i64 (k : Nat), .int .u32 id, .int .u64 v]] w fun e w' => e = .returned (.string (bs (lineL k id v))) ∧ Fr NoF w w' := by
  have HE := Lib.hid (line_in hk id v)
  have hnl := nmL_len k hk
  have hid2 : id < 18446744073709551616 := by omega
  have hdl := dd_len_le id 20 (by omega) (by decide)
  have HB := Lib.hid (fun (u : Nat) (W : World) (hu : u < 18446744073709551616) => big_calls u W hu)
  have HNM : Hid (∀ W, Calls Tryd.prog 24 #[] W fun e w' => e = .returned (.slice (some ⟨W.heap.size, 0, none⟩) 8 8) ∧ Blk w' W.heap.size 8 (fun i => .string (bs (nmL i))) ∧ Fr NoF W w') := fun W => names_calls W
  have ew : IntKind.u64.wrap (id : Int) = (id : Int) := IntWalk.u64_in _ (by omega)
  generalize hr : lineL k id v = r at *
  have HR := Lib.hid hr
  clear hr
  have hkI : (k : Int) < 8 := by omega
  have hkI2 : ¬ (7 : Int) < k := by omega
  have hkd : decide ((7 : Int) < k) = false := by simp; omega
  have hkd2 : decide (7 < k) = false := by simp; omega
  obtain ⟨A1, A2⟩ := concat_runs (P := Tryd.prog) (nmL k) id (by omega) hid2
  obtain ⟨B1, B2⟩ := concat_runs (P := Tryd.prog) (nmL k ++ 32 :: Lib.decDigits id) v (by simp; omega) hv
  have A := Lib.hid (And.intro A1 A2)
  have B := Lib.hid (And.intro B1 B2)
  clear A1 A2 B1 B2
  have hk4 : k = 4 → idZ k = true ∧ vZ k = true := fun e => by subst e; decide
  have hk06 : (k = 0 ∨ k = 6) → idZ k = false ∧ vZ k = false := fun e => by rcases e with rfl | rfl <;> decide
  have hkr : ¬ k = 4 → ¬ (k = 0 ∨ k = 6) → idZ k = true ∧ vZ k = false := by
    have : ∀ k, k < 8 → ¬ k = 4 → ¬ (k = 0 ∨ k = 6) → idZ k = true ∧ vZ k = false := by decide
    exact this k hk
  by_cases c4 : k = 4
  · obtain ⟨c1, c2⟩ := hk4 c4
    have he : r = nmL k ++ 32 :: Lib.decDigits id ++ 32 :: Lib.decDigits v := by have := HE.out; rw [c1, c2] at this; simpa using this
    rw [he]
    subst c4
    obtain ⟨A1, A2⟩ := A.out
    obtain ⟨B1, B2⟩ := B.out
    clear A B
    generalize bs (nmL 4 ++ 32 :: Lib.decDigits id ++ 32 :: Lib.decDigits v) = s4 at *
    generalize bs (nmL 4 ++ 32 :: Lib.decDigits id ++ [32]) = s3 at *
    generalize bs (nmL 4 ++ 32 :: Lib.decDigits id) = s2 at *
    generalize bs (nmL 4 ++ [32]) = s1 at *
    have A := Lib.hid (And.intro A1 A2)
    have B := Lib.hid (And.intro B1 B2)
    clear A1 A2 B1 B2
    clear HE hk4 hk06 hkr c1 c2 HR he hkd hkd2 hkI hkI2 hk
    have HI := Lib.hid (And.intro hid2 hv)
    clear hid2 hv hid hdl hnl
    go_enter Tryd.func12, Tryd.ntmps12
    go_wp2_with fail
    have hb0 : Blk (w.alloc (.cells #[.int .i64 (4), .int .u32 (id : Nat), .int .u64 (v : Nat)] 40)) w.heap.size 3 (fun i => match i with | 0 => .int .i64 (4) | 1 => .int .u32 (id : Nat) | _ => .int .u64 (v : Nat)) := Blk.new w _ _ 3 _ _ rfl rfl (fun i hi => by
      match i, hi with
      | 0, _ | 1, _ | 2, _ => rfl)
    have HB0 := Lib.hid hb0
    have KS : Hid (∀ W, Fr NoF (w.alloc (.cells #[.int .i64 (4), .int .u32 (id : Nat), .int .u64 (v : Nat)] 40)) W → (fun w' => w'.cell? ⟨w.heap.size, 0, none⟩ = some (.int .i64 (4))) W) := fun W f => (hb0.fr f (fun q => q)).cell (i := 0) (by omega)
    clear hb0
    go_region_with ((go_at_call 24; (with_reducible refine (HNM.out _).mono ?_); rintro e w3 ⟨rfl, h3, f3⟩; have h4 := nm_blk h3 (n := w.heap.size + 1) (by simp); have nk := h4.cell (i := 4) (by omega); have lk := h4.lt; clear h4; have F3 := Lib.hid (Fr.trans (F := NoF) (a := w.alloc (.cells #[.int .i64 (4), .int .u32 (id : Nat), .int .u64 (v : Nat)] 40)) (by repeat (first | exact Fr.refl NoF _ | apply Fr.drew | apply Fr.drewN)) f3 (fun _ q => q.elim)); have ks := KS.out w3 F3.out; clear h3 f3))
    all_goals
      have hb3 := HB0.out.fr F3.out (fun q => q)
      have d0 := hb3.cell (i := 0) (by omega)
      have d1 := hb3.cell (i := 1) (by omega)
      have d2 := hb3.cell (i := 2) (by omega)
      simp only at d0 d1 d2
      have FW := Lib.hid (Fr.trans (F := NoF) ((Fr.refl NoF w).alloc _) F3.out (fun _ q => q.elim))
      obtain ⟨A1, A2⟩ := A.out
      obtain ⟨B1, B2⟩ := B.out
      clear hb3 A B KS HNM HB0 F3 ks
      go_wp2_with fail
      refine (HB.out id _ HI.out.1).mono ?_
      rintro e w4 ⟨rfl, d4', rfl⟩
      go_wp2_with fail
      refine (HB.out v _ HI.out.2).mono ?_
      rintro e w5 ⟨rfl, d5', rfl⟩
      go_wp2
      go_returns
      exact ⟨by first | rfl | (simp; done), by repeat (first | exact FW.out | apply Fr.drew | apply Fr.drewN)⟩
  · by_cases c06 : k = 0 ∨ k = 6
    · obtain ⟨c1, c2⟩ := hk06 c06
      have he : r = if ¬ id = 0 ∨ ¬ v = 0 then [] else nmL k := by have := HE.out; rw [c1, c2] at this; simpa using this
      by_cases z1 : id = 0
      · by_cases z2 : v = 0
        · rw [if_neg (by simp [z1, z2])] at he
          rw [he]
          subst z1 z2
          clear HE hk4 hk06 hkr c1 c2 HR he hkd hkd2 hkI hkI2 hk c4 hid hv hid2 hdl hnl ew
          rcases c06 with rfl | rfl
          · go_enter Tryd.func12, Tryd.ntmps12
            go_wp2_with fail
            have hb0 : Blk (w.alloc (.cells #[.int .i64 (0), .int .u32 (0 : Nat), .int .u64 (0 : Nat)] 40)) w.heap.size 3 (fun i => match i with | 0 => .int .i64 (0) | 1 => .int .u32 (0 : Nat) | _ => .int .u64 (0 : Nat)) := Blk.new w _ _ 3 _ _ rfl rfl (fun i hi => by
              match i, hi with
              | 0, _ | 1, _ | 2, _ => rfl)
            have HB0 := Lib.hid hb0
            have KS : Hid (∀ W, Fr NoF (w.alloc (.cells #[.int .i64 (0), .int .u32 (0 : Nat), .int .u64 (0 : Nat)] 40)) W → (fun w' => w'.cell? ⟨w.heap.size, 0, none⟩ = some (.int .i64 (0))) W) := fun W f => (hb0.fr f (fun q => q)).cell (i := 0) (by omega)
            clear hb0
            go_region_with ((go_at_call 24; (with_reducible refine (HNM.out _).mono ?_); rintro e w3 ⟨rfl, h3, f3⟩; have h4 := nm_blk h3 (n := w.heap.size + 1) (by simp); have nk := h4.cell (i := 0) (by omega); have lk := h4.lt; clear h4; have F3 := Lib.hid (Fr.trans (F := NoF) (a := w.alloc (.cells #[.int .i64 (0), .int .u32 (0 : Nat), .int .u64 (0 : Nat)] 40)) (by repeat (first | exact Fr.refl NoF _ | apply Fr.drew | apply Fr.drewN)) f3 (fun _ q => q.elim)); have ks := KS.out w3 F3.out; clear h3 f3))
            all_goals
              have hb3 := HB0.out.fr F3.out (fun q => q)
              have d0 := hb3.cell (i := 0) (by omega)
              have d1 := hb3.cell (i := 1) (by omega)
              have d2 := hb3.cell (i := 2) (by omega)
              simp only at d0 d1 d2
              have FW := Lib.hid (Fr.trans (F := NoF) ((Fr.refl NoF w).alloc _) F3.out (fun _ q => q.elim))
              obtain ⟨A1, A2⟩ := A.out
              obtain ⟨B1, B2⟩ := B.out
              clear hb3 A B KS HNM HB0 F3 ks
              go_wp2
              go_returns
              exact ⟨by first | rfl | (simp; done), by repeat (first | exact FW.out | apply Fr.drew | apply Fr.drewN)⟩
          · go_enter Tryd.func12, Tryd.ntmps12
            go_wp2_with fail
            have hb0 : Blk (w.alloc (.cells #[.int .i64 (6), .int .u32 (0 : Nat), .int .u64 (0 : Nat)] 40)) w.heap.size 3 (fun i => match i with | 0 => .int .i64 (6) | 1 => .int .u32 (0 : Nat) | _ => .int .u64 (0 : Nat)) := Blk.new w _ _ 3 _ _ rfl rfl (fun i hi => by
              match i, hi with
              | 0, _ | 1, _ | 2, _ => rfl)
            have HB0 := Lib.hid hb0
            have KS : Hid (∀ W, Fr NoF (w.alloc (.cells #[.int .i64 (6), .int .u32 (0 : Nat), .int .u64 (0 : Nat)] 40)) W → (fun w' => w'.cell? ⟨w.heap.size, 0, none⟩ = some (.int .i64 (6))) W) := fun W f => (hb0.fr f (fun q => q)).cell (i := 0) (by omega)
            clear hb0
            go_region_with ((go_at_call 24; (with_reducible refine (HNM.out _).mono ?_); rintro e w3 ⟨rfl, h3, f3⟩; have h4 := nm_blk h3 (n := w.heap.size + 1) (by simp); have nk := h4.cell (i := 6) (by omega); have lk := h4.lt; clear h4; have F3 := Lib.hid (Fr.trans (F := NoF) (a := w.alloc (.cells #[.int .i64 (6), .int .u32 (0 : Nat), .int .u64 (0 : Nat)] 40)) (by repeat (first | exact Fr.refl NoF _ | apply Fr.drew | apply Fr.drewN)) f3 (fun _ q => q.elim)); have ks := KS.out w3 F3.out; clear h3 f3))
            all_goals
              have hb3 := HB0.out.fr F3.out (fun q => q)
              have d0 := hb3.cell (i := 0) (by omega)
              have d1 := hb3.cell (i := 1) (by omega)
              have d2 := hb3.cell (i := 2) (by omega)
              simp only at d0 d1 d2
              have FW := Lib.hid (Fr.trans (F := NoF) ((Fr.refl NoF w).alloc _) F3.out (fun _ q => q.elim))
              obtain ⟨A1, A2⟩ := A.out
              obtain ⟨B1, B2⟩ := B.out
              clear hb3 A B KS HNM HB0 F3 ks
              go_wp2
              go_returns
              exact ⟨by first | rfl | (simp; done), by repeat (first | exact FW.out | apply Fr.drew | apply Fr.drewN)⟩
        · rw [if_pos (.inr z2)] at he
          rw [he]
          subst z1
          clear HE hk4 hk06 hkr c1 c2 HR he hkd hkd2 hkI hkI2 hk c4 hid hid2 hdl hnl ew A B HB HNM
          have q1 : ((v : Int) != 0) = true := by simp; omega
          have q2 : ((v : Int) == 0) = false := by simp; omega
          clear z2
          clear hv
          rcases c06 with rfl | rfl
          all_goals
            go_enter Tryd.func12, Tryd.ntmps12
            go_wp2
            go_returns
            exact ⟨rfl, (Fr.refl _ _).alloc _⟩
      · rw [if_pos (.inl z1)] at he
        rw [he]
        clear HE hk4 hk06 hkr c1 c2 HR he hkd hkd2 hkI hkI2 hk c4 hid hid2 hdl hnl ew A B HB HNM
        have q1 : ((id : Int) != 0) = true := by simp; omega
        have q2 : ((id : Int) == 0) = false := by simp; omega
        clear z1
        clear hv
        rcases c06 with rfl | rfl
        all_goals
          go_enter Tryd.func12, Tryd.ntmps12
          go_wp2
          go_returns
          exact ⟨rfl, (Fr.refl _ _).alloc _⟩
    · obtain ⟨c1, c2⟩ := hkr c4 c06
      have he : r = if ¬ v = 0 then [] else nmL k ++ 32 :: Lib.decDigits id := by have := HE.out; rw [c1, c2] at this; simpa using this
      have k0 : ((k : Int) == 0) = false := by simp; omega
      have k6 : ((k : Int) == 6) = false := by simp; omega
      have k4 : ((k : Int) != 4) = true := by simp; omega
      have k4' : ((k : Int) == 4) = false := by simp; omega
      by_cases z2 : v = 0
      · rw [if_neg (by simp [z2])] at he
        rw [he]
        subst z2
        have HI := Lib.hid (And.intro hid2 hid)
        clear HE hk4 hk06 hkr c1 c2 HR he c4 c06 hid hv hid2 hdl hnl
        go_enter Tryd.func12, Tryd.ntmps12
        go_wp2_with fail
        have hb0 : Blk (w.alloc (.cells #[.int .i64 ((k : Nat)), .int .u32 (id : Nat), .int .u64 (0 : Nat)] 40)) w.heap.size 3 (fun i => match i with | 0 => .int .i64 ((k : Nat)) | 1 => .int .u32 (id : Nat) | _ => .int .u64 (0 : Nat)) := Blk.new w _ _ 3 _ _ rfl rfl (fun i hi => by
          match i, hi with
          | 0, _ | 1, _ | 2, _ => rfl)
        have HB0 := Lib.hid hb0
        have KS : Hid (∀ W, Fr NoF (w.alloc (.cells #[.int .i64 ((k : Nat)), .int .u32 (id : Nat), .int .u64 (0 : Nat)] 40)) W → (fun w' => w'.cell? ⟨w.heap.size, 0, none⟩ = some (.int .i64 ((k : Nat)))) W) := fun W f => (hb0.fr f (fun q => q)).cell (i := 0) (by omega)
        clear hb0
        go_region_with ((go_at_call 24; (with_reducible refine (HNM.out _).mono ?_); rintro e w3 ⟨rfl, h3, f3⟩; have h4 := nm_blk h3 (n := w.heap.size + 1) (by simp); have nk := h4.cell (i := k) (by omega); have lk := h4.lt; clear h4; have F3 := Lib.hid (Fr.trans (F := NoF) (a := w.alloc (.cells #[.int .i64 ((k : Nat)), .int .u32 (id : Nat), .int .u64 (0 : Nat)] 40)) (by repeat (first | exact Fr.refl NoF _ | apply Fr.drew | apply Fr.drewN)) f3 (fun _ q => q.elim)); have ks := KS.out w3 F3.out; clear h3 f3))
        all_goals
          have hb3 := HB0.out.fr F3.out (fun q => q)
          have d0 := hb3.cell (i := 0) (by omega)
          have d1 := hb3.cell (i := 1) (by omega)
          have d2 := hb3.cell (i := 2) (by omega)
          simp only at d0 d1 d2
          have FW := Lib.hid (Fr.trans (F := NoF) ((Fr.refl NoF w).alloc _) F3.out (fun _ q => q.elim))
          obtain ⟨A1, A2⟩ := A.out
          obtain ⟨B1, B2⟩ := B.out
          clear hb3 A B KS HNM HB0 F3 ks
          go_wp2_with fail
          refine (HB.out id _ HI.out.1).mono ?_
          rintro e w4 ⟨rfl, d4', rfl⟩
          go_wp2
          go_returns
          exact ⟨by first | rfl | (simp; done), by repeat (first | exact FW.out | apply Fr.drew | apply Fr.drewN)⟩
      · rw [if_pos z2] at he
        rw [he]
        clear HE hk4 hk06 hkr c1 c2 HR he c4 c06 hid hid2 hdl hnl ew A B HB HNM
        have q1 : ((v : Int) != 0) = true := by simp; omega
        have q2 : ((v : Int) == 0) = false := by simp; omega
        clear z2
        clear hv
        go_enter Tryd.func12, Tryd.ntmps12
        go_wp2
        go_returns
        exact ⟨rfl, (Fr.refl _ _).alloc _⟩
theorem rline_calls {w : World} (k : Int) {id v : Nat} (hid : id < 4294967296) (hv : v < 18446744073709551616) :
    Calls Tryd.prog 12 #[.agg #[.int .i64 k, .int .u32 id, .int .u64 v]] w fun e w' => e = .returned (.string (bs (lineL k id v))) ∧ Fr NoF w w' := by
  by_cases h : k < 0 ∨ 7 < k
  · exact rline_calls_out h
  · obtain ⟨n, rfl⟩ := Int.eq_ofNat_of_zero_le (show 0 ≤ k by omega)
    exact rline_calls_in (by omega) hid hv
end Go.Proofs.YtaebogmgjimkfaaDoor

/-
  The document's Read of a script: its head.
-/
import Derived.Test.YtaebogmgjimkfaaDoorScrD
import Derived.Test.YtaebogmgjimkfaaDoorOnce
import Derived.Deep.CutRange
namespace Go.Proofs.YtaebogmgjimkfaaDoor
open Go.RowKit Go.Maps
set_option linter.unusedVariables false
set_option linter.unusedSimpArgs false
theorem ref_at {w : World} {v : Value} {l : List Nat} (h : SlK .u8 w v l) (hb : ∀ x ∈ l, x < 256) (i : Nat) (hi : i < 1000) :
    Calls Tryd.prog 19 #[v, .int .i64 i] w fun e w' => e = .returned (.int .i64 (l.getD i 0 : Nat)) ∧ w = w' := by
  obtain ⟨a, c, rfl, h1, h2⟩ := h.shape
  unfold maxLen at h2
  have H := Lib.hid h
  have HB := Lib.hid hb
  clear h hb
  go_enter Tryd.func19, Tryd.ntmps19
  by_cases hl : i < l.length
  · obtain ⟨b, o, c', e1, _, _, h3, h4⟩ := H.out.at hl
    simp only [Value.slice.injEq] at e1
    obtain ⟨rfl, _, rfl⟩ := e1
    have hx : Hid (l.getD i 0 = l[i] ∧ l[i] < 256) := ⟨by simp [List.getD, hl], HB.out _ (List.getElem_mem hl)⟩
    rw [hx.out.1]
    go_wp2
    go_returns
    have hx2 := hx.out.2
    exact ⟨congrArg (fun z => Ending.returned (Value.int .i64 z)) (by unfold wrap64; omega), rfl⟩
  · rw [show l.getD i 0 = 0 from by simp [List.getD, List.getElem?_eq_none (Nat.le_of_not_lt hl)]]
    go_wp2
    go_returns
    exact ⟨rfl, rfl⟩
theorem EIro : EI Tryd.prog 34 40 3 24 := EI.mk' (z := .agg #[.int .i64 0, .int .u32 0, .int .u64 0]) Tryd.underlying34 (by kernel_rfl) rfl (by decide)
def zScr : Nat → Value := fun i => match i with | 0 => .int .i64 0 | 1 => .int .i64 0 | 2 => .string ⟨#[]⟩ | 3 => .slice none 0 0 | _ => .slice none 0 0
theorem newZ (W : World) : Blk (W.alloc (.cells #[.int .i64 0, .int .i64 0, .string ⟨#[]⟩, .slice none 0 0, .slice none 0 0] 30)) W.heap.size 5 zScr :=
  Blk.new _ _ _ 5 _ _ rfl rfl (fun i hi => by
    match i, hi with
    | 0, _ | 1, _ | 2, _ | 3, _ | 4, _ => rfl)
theorem new5 (W : World) : Blk (W.alloc (.cells #[.string ⟨#[108, 114, 117]⟩, .string ⟨#[108, 114, 117, 107]⟩, .string ⟨#[116, 119, 111, 113]⟩, .string ⟨#[97, 114, 99]⟩, .string ⟨#[112, 114, 111]⟩] 9)) W.heap.size 5 (fun i => .string (polZ i)) :=
  Blk.new _ _ _ 5 _ _ rfl rfl (fun i hi => by
    match i, hi with
    | 0, _ | 1, _ | 2, _ | 3, _ | 4, _ => rfl)
theorem new3 (W : World) : Blk (W.alloc (.cells (madeCells #[.slice none 0 0] 3) 34)) W.heap.size 3 (fun _ => .slice none 0 0) :=
  Blk.new _ _ _ _ _ _ rfl (by simp [madeCells]) (fun i hi => by rw [made_at hi]; simp [Nat.mod_one])
theorem fr_new {w0 W : World} {b k : Nat} {v : Value} (hb : w0.heap.size ≤ b) (h : Fr NoF w0 W) : Fr NoF w0 (W.setCell ⟨b, k, none⟩ v) := h.setCell (p := ⟨b, k, none⟩) (.inr hb) v
theorem L3T.frS {ty : TypeId} {w w' : World} {b base : Nat} {vs : Nat → Value} {os : Nat → List OpK} (h : L3T ty w b base vs os) {G : Nat → Prop} (f : Fr G w w') (hb : ¬ G b) (hG : ∀ c, c < 3 → ∀ i, (vs c).ownBlock = some i → ¬ G i) : L3T ty w' b base vs os :=
  ⟨h.blk.fr f hb, fun c hc => own_keep (h.own c hc) f (fun i q => hG c hc i q), h.dis, h.nb⟩
theorem OwK.base2 {k : IntKind} {base : Nat} {e : TypeId} {w w' : World} {v : Value} {l : List Nat} (h : OwK k base e w v l) (f : Fr NoF w w') : OwK k base e w' v l := own_keep h f (fun _ _ q => q)
set_option maxHeartbeats 16000000 in
set_option maxRecDepth 20000 in
theorem ref_read {w : World} {v : Value} {l : List Nat} (h : SlK .u8 w v l) (hb : ∀ x ∈ l, x < 256) (hl : l.length ≤ 400) :
    Calls Tryd.prog 6 #[v] w fun e w' => ∃ cv base pv vs, e = .returned (.agg #[.int .i64 (1 + l.getD 0 0 % 6 : Nat), .int .i64 (1 + l.getD 1 0 % 12 : Nat), .string (polZ (l.getD 2 0 % 5)), .slice (some ⟨cv, 0, none⟩) 3 3, pv]) ∧ L3T 40 w' cv base vs (opsK (l.drop 4) (min ((l.drop 4).length / 3) 60)) ∧ w.heap.size ≤ cv ∧ w.heap.size ≤ base ∧ SlK .i64 w' pv (l.drop 4) ∧ (∀ b, pv.ownBlock = some b → w.heap.size ≤ b) ∧ Fr NoF w w' := by
  obtain ⟨a, c, rfl, h1, h2⟩ := h.shape
  unfold maxLen at h2
  have H := Lib.hid h
  have HB := Lib.hid hb
  clear h hb
  have HA : Hid (∀ (i : Nat) W, i < 3 → Fr NoF w W → Calls Tryd.prog 19 #[.slice a l.length c, .int .i64 i] W fun e w' => e = .returned (.int .i64 (l.getD i 0 : Nat)) ∧ W = w') := fun i W hi f => ref_at (H.out.keep f) HB.out i (by omega)
  have HA0 : Hid (∀ W, Fr NoF w W → Calls Tryd.prog 19 #[.slice a l.length c, .int .i64 0] W fun e w' => e = .returned (.int .i64 (l.getD 0 0 : Nat)) ∧ W = w') := fun W f => HA.out 0 W (by omega) f
  have HA1 : Hid (∀ W, Fr NoF w W → Calls Tryd.prog 19 #[.slice a l.length c, .int .i64 1] W fun e w' => e = .returned (.int .i64 (l.getD 1 0 : Nat)) ∧ W = w') := fun W f => HA.out 1 W (by omega) f
  have HA2 : Hid (∀ W, Fr NoF w W → Calls Tryd.prog 19 #[.slice a l.length c, .int .i64 2] W fun e w' => e = .returned (.int .i64 (l.getD 2 0 : Nat)) ∧ W = w') := fun W f => HA.out 2 W (by omega) f
  have x0 : l.getD 0 0 < 256 := by
    by_cases q : 0 < l.length
    · have := HB.out _ (List.getElem_mem q); simpa [List.getD, q] using this
    · simp [List.getD, q]
  have x1 : l.getD 1 0 < 256 := by
    by_cases q : 1 < l.length
    · have := HB.out _ (List.getElem_mem q); simpa [List.getD, q] using this
    · simp [List.getD, q]
  have x2 : l.getD 2 0 < 256 := by
    by_cases q : 2 < l.length
    · have := HB.out _ (List.getElem_mem q); simpa [List.getD, q] using this
    · simp [List.getD, q]
  have e0 : Int.tmod (l.getD 0 0 : Nat) 6 = ((l.getD 0 0 % 6 : Nat) : Int) := by rw [Int.tmod_eq_emod_of_nonneg (by omega)]; omega
  have e1 : Int.tmod (l.getD 1 0 : Nat) 12 = ((l.getD 1 0 % 12 : Nat) : Int) := by rw [Int.tmod_eq_emod_of_nonneg (by omega)]; omega
  have e2 : Int.tmod (l.getD 2 0 : Nat) 5 = ((l.getD 2 0 % 5 : Nat) : Int) := by rw [Int.tmod_eq_emod_of_nonneg (by omega)]; omega
  have r0 : l.getD 0 0 % 6 < 6 := Nat.mod_lt _ (by decide)
  have r1 : l.getD 1 0 % 12 < 12 := Nat.mod_lt _ (by decide)
  have r2 : l.getD 2 0 % 5 < 5 := Nat.mod_lt _ (by decide)
  generalize hxm0 : l.getD 0 0 % 6 = m0 at *
  have HXm0 := Lib.hid hxm0
  clear hxm0
  generalize hxm1 : l.getD 1 0 % 12 = m1 at *
  have HXm1 := Lib.hid hxm1
  clear hxm1
  generalize hxm2 : l.getD 2 0 % 5 = m2 at *
  have HXm2 := Lib.hid hxm2
  clear hxm2
  generalize hxy0 : l.getD 0 0 = y0 at *
  have HXy0 := Lib.hid hxy0
  clear hxy0
  generalize hxy1 : l.getD 1 0 = y1 at *
  have HXy1 := Lib.hid hxy1
  clear hxy1
  generalize hxy2 : l.getD 2 0 = y2 at *
  have HXy2 := Lib.hid hxy2
  clear hxy2
  have w0 : IntKind.i64.wrap (1 + (m0 : Int)) = 1 + (m0 : Int) := IntWalk.i64_in _ (by omega)
  have w1 : IntKind.i64.wrap (1 + (m1 : Int)) = 1 + (m1 : Int) := IntWalk.i64_in _ (by omega)
  have r2i : (m2 : Int) < 5 := by omega
  have mk1 : ∀ w : World, (Instr.makeSlice 28 (.int .i64 3) (.int .i64 3)).run Tryd.prog w =
      .ok (.slice (some ⟨w.heap.size, 0, none⟩) 3 3) (w.alloc (.cells (madeCells #[.slice none 0 0] 3) 34)) := by
    intro w
    obtain ⟨i0, hi0, hz0, hz1, hz2⟩ := info_parts' (P := Tryd.prog) (e := 34) (z := .slice none 0 0) (s := 1) (b := 24) (by kernel_rfl)
    have := run_make (P := Tryd.prog) w 28 34 i0 _ Tryd.underlying28 hi0 hz0 .i64 .i64 3 3 (by omega) (Int.le_refl _) (by rw [hz2]; omega) (by omega)
    rw [hz1] at this
    exact this
  clear HA
  go_enter Tryd.func6, Tryd.ntmps6
  go_upto_region 1 with fail
  have R0 : Blk (w.alloc (.cells #[.int .i64 0, .int .i64 0, .string ⟨#[]⟩, .slice none 0 0, .slice none 0 0] 30)) w.heap.size 5 zScr := newZ _
  have f0 : Fr NoF w (w.alloc (.cells #[.int .i64 0, .int .i64 0, .string ⟨#[]⟩, .slice none 0 0, .slice none 0 0] 30)) := (Fr.refl NoF w).alloc _
  have lw := R0.lt
  generalize w.alloc (.cells #[.int .i64 0, .int .i64 0, .string ⟨#[]⟩, .slice none 0 0, .slice none 0 0] 30) = w0 at *
  have HA0 := Lib.hid (fun (W : World) (f : Fr NoF w0 W) => HA0.out W (f0.trans f (fun _ q => q.elim)))
  have HA1 := Lib.hid (fun (W : World) (f : Fr NoF w0 W) => HA1.out W (f0.trans f (fun _ q => q.elim)))
  have HA2 := Lib.hid (fun (W : World) (f : Fr NoF w0 W) => HA2.out W (f0.trans f (fun _ q => q.elim)))
  have F0 := Lib.hid f0
  have HR0 := Lib.hid R0
  clear R0 f0
  go_cut [3] from 4 (fun s3 wx => ∃ bA bM vA, s3 = .pointer (some ⟨bA, 0, none⟩) ∧ Blk wx bA 5 vA ∧ (vA 0 = .int .i64 (1 + (m0 : Int)) ∧ vA 1 = .int .i64 (1 + (m1 : Int)) ∧ vA 2 = .string (polZ m2) ∧ vA 3 = .slice (some ⟨bM, 0, none⟩) 3 3 ∧ vA 4 = .slice none 0 0) ∧ Blk wx bM 3 (fun _ => .slice none 0 0) ∧ Fr NoF w0 wx ∧ w0.heap.size ≤ bA ∧ w0.heap.size ≤ bM ∧ ¬ bA = bM)
  case first =>
    rename_i J0 K0 hJ0 hK0
    refine wp_region_held_drew (S := fun W => Fr NoF w0 W) (by kernel_rfl) ?_ (fun hS => ?_)
    · (try dsimp only); exact (Fr.refl NoF w0).drew
    refine wpAnyH_take (i := 0) (oi := (⟨some 12, Op.move (Operand.tmp 0), 22, "ref.go:28", #[], none⟩ : Oper)) (v := ?_) rfl (by kernel_rfl) (by kernel_rfl) (by kernel_rfl) (fun _ _ _ h => h) (Or.inl ⟨by rfl, ?_⟩) (by assumption) ?_
    rotate_left
    · intro w hSw; (try dsimp only at hSw); go_simp; (try with_reducible rfl)
    simp only [Act.put, List.setIfInBounds_toArray, List.set_cons_zero, List.set_cons_succ]
    refine wpAnyH_take (i := 4) (oi := (⟨some 16, Op.move (Operand.tmp 0), 22, "ref.go:28", #[], none⟩ : Oper)) (v := ?_) rfl (by kernel_rfl) (by kernel_rfl) (by kernel_rfl) (fun _ _ _ h => h) (Or.inl ⟨by rfl, ?_⟩) (by assumption) ?_
    rotate_left
    · intro w hSw; (try dsimp only at hSw); go_simp; (try with_reducible rfl)
    simp only [Act.put, List.setIfInBounds_toArray, List.set_cons_zero, List.set_cons_succ]
    refine wpAnyH_take (i := 9) (oi := (⟨some 21, Op.move (Operand.tmp 0), 22, "ref.go:28", #[], none⟩ : Oper)) (v := ?_) rfl (by kernel_rfl) (by kernel_rfl) (by kernel_rfl) (fun _ _ _ h => h) (Or.inl ⟨by rfl, ?_⟩) (by assumption) ?_
    rotate_left
    · intro w hSw; (try dsimp only at hSw); go_simp; (try with_reducible rfl)
    simp only [Act.put, List.setIfInBounds_toArray, List.set_cons_zero, List.set_cons_succ]
    refine once_take (i := 1) (oi := (⟨some 13, Op.call ⟨Callee.value (Operand.func 19), #[Operand.tmp 12, Operand.const (Value.int IntKind.i64 0)], #[22, 3]⟩, 3, "ref.go:28", #[⟨0, Ground.data⟩], none⟩ : Oper)) (v := .int .i64 (y0 : Nat)) rfl (by kernel_rfl) (by kernel_rfl) (by kernel_rfl) (fun _ _ _ h => h) ⟨by rfl, 19, #[.slice a l.length c, .int .i64 0], ?_, ?_⟩ hS ?_
    · intro w hSw; (try dsimp only at hSw); go_simp
    · intro w hSw; refine (HA0.out w hSw).mono ?_; rintro e w3 ⟨rfl, rfl⟩; exact ⟨rfl, rfl⟩
    try simp only [Act.put, List.setIfInBounds_toArray, List.set_cons_zero, List.set_cons_succ]
    refine wpAnyH_take (i := 2) (oi := (⟨some 14, Op.binOp BinOp.rem 3 (Operand.tmp 13) (Operand.const (Value.int IntKind.i64 6)) 3, 3, "ref.go:28", #[⟨1, Ground.data⟩], none⟩ : Oper)) (v := ?_) rfl (by kernel_rfl) (by kernel_rfl) (by kernel_rfl) (fun _ _ _ h => h) (Or.inl ⟨by rfl, ?_⟩) (by assumption) ?_
    rotate_left
    · intro w hSw; (try dsimp only at hSw); go_simp; (try with_reducible rfl)
    simp only [Act.put, List.setIfInBounds_toArray, List.set_cons_zero, List.set_cons_succ]
    refine wpAnyH_take (i := 3) (oi := (⟨some 15, Op.binOp BinOp.add 3 (Operand.const (Value.int IntKind.i64 1)) (Operand.tmp 14) 3, 3, "ref.go:28", #[⟨2, Ground.data⟩], none⟩ : Oper)) (v := ?_) rfl (by kernel_rfl) (by kernel_rfl) (by kernel_rfl) (fun _ _ _ h => h) (Or.inl ⟨by rfl, ?_⟩) (by assumption) ?_
    rotate_left
    · intro w hSw; (try dsimp only at hSw); go_simp; (try with_reducible rfl)
    simp only [Act.put, List.setIfInBounds_toArray, List.set_cons_zero, List.set_cons_succ]
    refine once_take (i := 5) (oi := (⟨some 17, Op.call ⟨Callee.value (Operand.func 19), #[Operand.tmp 16, Operand.const (Value.int IntKind.i64 1)], #[22, 3]⟩, 3, "ref.go:28", #[⟨4, Ground.data⟩, ⟨1, Ground.chain⟩], none⟩ : Oper)) (v := .int .i64 (y1 : Nat)) rfl (by kernel_rfl) (by kernel_rfl) (by kernel_rfl) (fun _ _ _ h => h) ⟨by rfl, 19, #[.slice a l.length c, .int .i64 1], ?_, ?_⟩ hS ?_
    · intro w hSw; (try dsimp only at hSw); go_simp
    · intro w hSw; refine (HA1.out w hSw).mono ?_; rintro e w3 ⟨rfl, rfl⟩; exact ⟨rfl, rfl⟩
    try simp only [Act.put, List.setIfInBounds_toArray, List.set_cons_zero, List.set_cons_succ]
    refine wpAnyH_take (i := 6) (oi := (⟨some 18, Op.binOp BinOp.rem 3 (Operand.tmp 17) (Operand.const (Value.int IntKind.i64 12)) 3, 3, "ref.go:28", #[⟨5, Ground.data⟩], none⟩ : Oper)) (v := ?_) rfl (by kernel_rfl) (by kernel_rfl) (by kernel_rfl) (fun _ _ _ h => h) (Or.inl ⟨by rfl, ?_⟩) (by assumption) ?_
    rotate_left
    · intro w hSw; (try dsimp only at hSw); go_simp; (try with_reducible rfl)
    simp only [Act.put, List.setIfInBounds_toArray, List.set_cons_zero, List.set_cons_succ]
    refine wpAnyH_take (i := 7) (oi := (⟨some 19, Op.binOp BinOp.add 3 (Operand.const (Value.int IntKind.i64 1)) (Operand.tmp 18) 3, 3, "ref.go:28", #[⟨6, Ground.data⟩], none⟩ : Oper)) (v := ?_) rfl (by kernel_rfl) (by kernel_rfl) (by kernel_rfl) (fun _ _ _ h => h) (Or.inl ⟨by rfl, ?_⟩) (by assumption) ?_
    rotate_left
    · intro w hSw; (try dsimp only at hSw); go_simp; (try with_reducible rfl)
    simp only [Act.put, List.setIfInBounds_toArray, List.set_cons_zero, List.set_cons_succ]
    refine once_take (i := 10) (oi := (⟨some 22, Op.call ⟨Callee.value (Operand.func 19), #[Operand.tmp 21, Operand.const (Value.int IntKind.i64 2)], #[22, 3]⟩, 3, "ref.go:28", #[⟨9, Ground.data⟩, ⟨5, Ground.chain⟩], none⟩ : Oper)) (v := .int .i64 (y2 : Nat)) rfl (by kernel_rfl) (by kernel_rfl) (by kernel_rfl) (fun _ _ _ h => h) ⟨by rfl, 19, #[.slice a l.length c, .int .i64 2], ?_, ?_⟩ hS ?_
    · intro w hSw; (try dsimp only at hSw); go_simp
    · intro w hSw; refine (HA2.out w hSw).mono ?_; rintro e w3 ⟨rfl, rfl⟩; exact ⟨rfl, rfl⟩
    try simp only [Act.put, List.setIfInBounds_toArray, List.set_cons_zero, List.set_cons_succ]
    refine wpAnyH_take (i := 11) (oi := (⟨some 23, Op.binOp BinOp.rem 3 (Operand.tmp 22) (Operand.const (Value.int IntKind.i64 5)) 3, 3, "ref.go:28", #[⟨10, Ground.data⟩], none⟩ : Oper)) (v := ?_) rfl (by kernel_rfl) (by kernel_rfl) (by kernel_rfl) (fun _ _ _ h => h) (Or.inl ⟨by rfl, ?_⟩) (by assumption) ?_
    rotate_left
    · intro w hSw; (try dsimp only at hSw); go_simp; (try with_reducible rfl)
    simp only [Act.put, List.setIfInBounds_toArray, List.set_cons_zero, List.set_cons_succ]
    generalize w0.drew = W0 at *
    refine wpAnyH_ready (rs := [8, 14, 16]) (by kernel_rfl) (by simp) ?_
    refine AllReadyH.cons (o := (⟨some 20, Op.buildSlice 56 5 #[(0, Operand.const (Value.string { data := #[108, 114, 117] })), (1, Operand.const (Value.string { data := #[108, 114, 117, 107] })), (2, Operand.const (Value.string { data := #[116, 119, 111, 113] })), (3, Operand.const (Value.string { data := #[97, 114, 99] })), (4, Operand.const (Value.string { data := #[112, 114, 111] }))], 56, "ref.go:28", #[], none⟩ : Oper)) rfl (fun K hK => ?_) ?_
    · go_simp
      have hB : Blk (W0.alloc (.cells #[.string ⟨#[108, 114, 117]⟩, .string ⟨#[108, 114, 117, 107]⟩, .string ⟨#[116, 119, 111, 113]⟩, .string ⟨#[97, 114, 99]⟩, .string ⟨#[112, 114, 111]⟩] 9)) W0.heap.size 5 (fun i => .string (polZ i)) := new5 _
      have gq : Fr NoF W0 (W0.alloc (.cells #[.string ⟨#[108, 114, 117]⟩, .string ⟨#[108, 114, 117, 107]⟩, .string ⟨#[116, 119, 111, 113]⟩, .string ⟨#[97, 114, 99]⟩, .string ⟨#[112, 114, 111]⟩] 9)) := (Fr.refl NoF W0).alloc _
      have iB : w0.heap.size ≤ W0.heap.size := hS.size
      have hS1 := hS.trans gq (fun _ q => q.elim)
      clear gq
      generalize W0.alloc (.cells #[.string ⟨#[108, 114, 117]⟩, .string ⟨#[108, 114, 117, 107]⟩, .string ⟨#[116, 119, 111, 113]⟩, .string ⟨#[97, 114, 99]⟩, .string ⟨#[112, 114, 111]⟩] 9) = W1 at *
      generalize W0.heap.size = bB at *
      refine hK.out _ _ hS1 (fun hS => ?_)
      clear hK K hS1
      try simp only [Act.put, List.setIfInBounds_toArray, List.set_cons_zero, List.set_cons_succ]
      refine wpAnyH_take (i := 12) (oi := (⟨some 24, Op.indexAddr 56 (Operand.tmp 20) (Operand.tmp 23), 0, "ref.go:28", #[⟨8, Ground.data⟩, ⟨11, Ground.data⟩], none⟩ : Oper)) (v := ?_) rfl (by kernel_rfl) (by kernel_rfl) (by kernel_rfl) (fun _ _ _ h => h) (Or.inl ⟨by rfl, ?_⟩) (by assumption) ?_
      rotate_left
      · intro w hSw; (try dsimp only at hSw); go_simp; (try with_reducible rfl)
      simp only [Act.put, List.setIfInBounds_toArray, List.set_cons_zero, List.set_cons_succ]
      refine wpAnyH_ready (rs := [13, 14, 16]) (by kernel_rfl) (by simp) ?_
      refine AllReadyH.cons (o := (⟨some 25, Op.load 9 (Operand.tmp 24), 9, "ref.go:28", #[⟨12, Ground.data⟩], none⟩ : Oper)) rfl (fun K hK => ?_) ?_
      · have cL := hB.cell r2
        go_simp
        refine hK.out _ _ hS (fun hS => ?_)
        clear hK K cL
        try simp only [Act.put, List.setIfInBounds_toArray, List.set_cons_zero, List.set_cons_succ]
        refine wpAnyH_ready (rs := [14, 16]) (by kernel_rfl) (by simp) ?_
        refine AllReadyH.cons (o := (⟨some 26, Op.makeSlice 28 (Operand.const (Value.int IntKind.i64 3)) (Operand.const (Value.int IntKind.i64 3)), 28, "ref.go:28", #[], none⟩ : Oper)) rfl (fun K hK => ?_) ?_
        · go_simp
          have hM : Blk (W1.alloc (.cells (madeCells #[.slice none 0 0] 3) 34)) W1.heap.size 3 (fun _ => .slice none 0 0) := new3 _
          have gq : Fr NoF W1 (W1.alloc (.cells (madeCells #[.slice none 0 0] 3) 34)) := (Fr.refl NoF W1).alloc _
          have iM : w0.heap.size ≤ W1.heap.size := hS.size
          have lB := hB.lt
          have hB := hB.fr gq id
          have hS1 := hS.trans gq (fun _ q => q.elim)
          clear gq
          generalize W1.alloc (.cells (madeCells #[.slice none 0 0] 3) 34) = W2 at *
          generalize W1.heap.size = bM at *
          refine hK.out _ _ hS1 (fun hS => ?_)
          clear hK K hS1
          try simp only [Act.put, List.setIfInBounds_toArray, List.set_cons_zero, List.set_cons_succ]
          refine wpAnyH_take (i := 15) (oi := (⟨some 27, Op.build 30 #[(0, Operand.tmp 15), (1, Operand.tmp 19), (2, Operand.tmp 25), (3, Operand.tmp 26)], 30, "ref.go:28", #[⟨3, Ground.data⟩, ⟨7, Ground.data⟩, ⟨13, Ground.data⟩, ⟨14, Ground.data⟩], none⟩ : Oper)) (v := ?_) rfl (by kernel_rfl) (by kernel_rfl) (by kernel_rfl) (fun _ _ _ h => h) (Or.inl ⟨by rfl, ?_⟩) (by assumption) ?_
          rotate_left
          · intro w hSw; (try dsimp only at hSw); go_simp; (try with_reducible rfl)
          simp only [Act.put, List.setIfInBounds_toArray, List.set_cons_zero, List.set_cons_succ]
          refine wpAnyH_ready (rs := [16]) (by kernel_rfl) (by simp) ?_
          refine AllReadyH.cons (o := (⟨some 3, Op.alloc 30, 0, "ref.go:28", #[], none⟩ : Oper)) rfl (fun K hK => ?_) ?_
          · go_simp
            have hA : Blk (W2.alloc (.cells #[.int .i64 0, .int .i64 0, .string ⟨#[]⟩, .slice none 0 0, .slice none 0 0] 30)) W2.heap.size 5 (zScr) := newZ _
            have gq : Fr NoF W2 (W2.alloc (.cells #[.int .i64 0, .int .i64 0, .string ⟨#[]⟩, .slice none 0 0, .slice none 0 0] 30)) := (Fr.refl NoF W2).alloc _
            have iA : w0.heap.size ≤ W2.heap.size := hS.size
            have lB := hB.lt
            have hB := hB.fr gq id
            have lM := hM.lt
            have hM := hM.fr gq id
            have hS1 := hS.trans gq (fun _ q => q.elim)
            clear gq
            generalize W2.alloc (.cells #[.int .i64 0, .int .i64 0, .string ⟨#[]⟩, .slice none 0 0, .slice none 0 0] 30) = W3 at *
            generalize W2.heap.size = bA at *
            refine hK.out _ _ hS1 (fun hS => ?_)
            clear hK K hS1
            try simp only [Act.put, List.setIfInBounds_toArray, List.set_cons_zero, List.set_cons_succ]
            have c0 := hA.cell (i := 0) (by omega)
            have c1 := hA.cell (i := 1) (by omega)
            have c2 := hA.cell (i := 2) (by omega)
            have c3 := hA.cell (i := 3) (by omega)
            have c4 := hA.cell (i := 4) (by omega)
            have t0 := hA.frozen 0
            have t1 := hA.frozen 1
            have t2 := hA.frozen 2
            have t3 := hA.frozen 3
            have t4 := hA.frozen 4
            have lA := hA.lt
            simp only [zScr] at c0 c1 c2 c3 c4
            refine wpAnyH_ready (rs := [17]) (by kernel_rfl) (by simp) ?_
            refine AllReadyH.cons (o := (⟨none, Op.store 30 (Operand.tmp 3) (Operand.tmp 27), 0, "ref.go:28", #[⟨16, Ground.data⟩, ⟨15, Ground.data⟩, ⟨10, Ground.chain⟩, ⟨0, Ground.phase⟩, ⟨1, Ground.phase⟩, ⟨2, Ground.phase⟩, ⟨3, Ground.phase⟩, ⟨4, Ground.phase⟩, ⟨5, Ground.phase⟩, ⟨6, Ground.phase⟩, ⟨7, Ground.phase⟩, ⟨8, Ground.phase⟩, ⟨9, Ground.phase⟩, ⟨10, Ground.phase⟩, ⟨11, Ground.phase⟩, ⟨12, Ground.phase⟩, ⟨13, Ground.phase⟩, ⟨14, Ground.phase⟩, ⟨15, Ground.phase⟩, ⟨16, Ground.phase⟩], none⟩ : Oper)) rfl (fun K hK => ?_) AllReadyH.nil
            go_simp
            refine hK.out _ _ (by repeat (first | exact hS | apply fr_new iA)) (fun hS => ?_)
            clear hK K c0 c1 c2 c3 c4 t0 t1 t2 t3 t4
            try simp only [Act.put, List.setIfInBounds_toArray, List.set_cons_zero, List.set_cons_succ]
            have hX := ((((hA.set 0 (.int .i64 (1 + (m0 : Int)))).set 1 (.int .i64 (1 + (m1 : Int)))).set 2 (.string (polZ m2))).set 3 (.slice (some ⟨bM, 0, none⟩) 3 3)).set 4 (.slice none 0 0)
            have hM := hM.fr (F := fun i => i = bA) (w' := ((((W3.setCell ⟨bA, 0, none⟩ (.int .i64 (1 + (m0 : Int)))).setCell ⟨bA, 1, none⟩ (.int .i64 (1 + (m1 : Int)))).setCell ⟨bA, 2, none⟩ (.string (polZ m2))).setCell ⟨bA, 3, none⟩ (.slice (some ⟨bM, 0, none⟩) 3 3)).setCell ⟨bA, 4, none⟩ (.slice none 0 0)) (by repeat (first | exact Fr.refl _ _ | apply fr_res)) (fun q => by omega)
            have nAM : ¬ bA = bM := by omega
            have HX := Lib.hid (And.intro hX (And.intro hM hS))
            clear hX hM hS hA hB
            refine wpAnyH_done (by kernel_rfl) ?_ _
            simp only [Exit.then]
            refine hK0 _ _ (Met.intro (hJ0 _ _ ?_))
            (repeat apply Exists.intro)
            refine ⟨?_, rfl⟩
            exact ⟨bA, bM, _, rfl, HX.out.1, ⟨rfl, rfl, rfl, rfl, rfl⟩, HX.out.2.1, HX.out.2.2, iA, iM, nAM⟩
          exact AllReadyH.nil
        refine AllReadyH.cons (o := (⟨some 3, Op.alloc 30, 0, "ref.go:28", #[], none⟩ : Oper)) rfl (fun K hK => ?_) ?_
        · go_simp
          have hA : Blk (W1.alloc (.cells #[.int .i64 0, .int .i64 0, .string ⟨#[]⟩, .slice none 0 0, .slice none 0 0] 30)) W1.heap.size 5 (zScr) := newZ _
          have gq : Fr NoF W1 (W1.alloc (.cells #[.int .i64 0, .int .i64 0, .string ⟨#[]⟩, .slice none 0 0, .slice none 0 0] 30)) := (Fr.refl NoF W1).alloc _
          have iA : w0.heap.size ≤ W1.heap.size := hS.size
          have lB := hB.lt
          have hB := hB.fr gq id
          have hS1 := hS.trans gq (fun _ q => q.elim)
          clear gq
          generalize W1.alloc (.cells #[.int .i64 0, .int .i64 0, .string ⟨#[]⟩, .slice none 0 0, .slice none 0 0] 30) = W2 at *
          generalize W1.heap.size = bA at *
          refine hK.out _ _ hS1 (fun hS => ?_)
          clear hK K hS1
          try simp only [Act.put, List.setIfInBounds_toArray, List.set_cons_zero, List.set_cons_succ]
          refine wpAnyH_ready (rs := [14]) (by kernel_rfl) (by simp) ?_
          refine AllReadyH.cons (o := (⟨some 26, Op.makeSlice 28 (Operand.const (Value.int IntKind.i64 3)) (Operand.const (Value.int IntKind.i64 3)), 28, "ref.go:28", #[], none⟩ : Oper)) rfl (fun K hK => ?_) ?_
          · go_simp
            have hM : Blk (W2.alloc (.cells (madeCells #[.slice none 0 0] 3) 34)) W2.heap.size 3 (fun _ => .slice none 0 0) := new3 _
            have gq : Fr NoF W2 (W2.alloc (.cells (madeCells #[.slice none 0 0] 3) 34)) := (Fr.refl NoF W2).alloc _
            have iM : w0.heap.size ≤ W2.heap.size := hS.size
            have lB := hB.lt
            have hB := hB.fr gq id
            have lA := hA.lt
            have hA := hA.fr gq id
            have hS1 := hS.trans gq (fun _ q => q.elim)
            clear gq
            generalize W2.alloc (.cells (madeCells #[.slice none 0 0] 3) 34) = W3 at *
            generalize W2.heap.size = bM at *
            refine hK.out _ _ hS1 (fun hS => ?_)
            clear hK K hS1
            try simp only [Act.put, List.setIfInBounds_toArray, List.set_cons_zero, List.set_cons_succ]
            refine wpAnyH_take (i := 15) (oi := (⟨some 27, Op.build 30 #[(0, Operand.tmp 15), (1, Operand.tmp 19), (2, Operand.tmp 25), (3, Operand.tmp 26)], 30, "ref.go:28", #[⟨3, Ground.data⟩, ⟨7, Ground.data⟩, ⟨13, Ground.data⟩, ⟨14, Ground.data⟩], none⟩ : Oper)) (v := ?_) rfl (by kernel_rfl) (by kernel_rfl) (by kernel_rfl) (fun _ _ _ h => h) (Or.inl ⟨by rfl, ?_⟩) (by assumption) ?_
            rotate_left
            · intro w hSw; (try dsimp only at hSw); go_simp; (try with_reducible rfl)
            simp only [Act.put, List.setIfInBounds_toArray, List.set_cons_zero, List.set_cons_succ]
            have c0 := hA.cell (i := 0) (by omega)
            have c1 := hA.cell (i := 1) (by omega)
            have c2 := hA.cell (i := 2) (by omega)
            have c3 := hA.cell (i := 3) (by omega)
            have c4 := hA.cell (i := 4) (by omega)
            have t0 := hA.frozen 0
            have t1 := hA.frozen 1
            have t2 := hA.frozen 2
            have t3 := hA.frozen 3
            have t4 := hA.frozen 4
            have lA := hA.lt
            simp only [zScr] at c0 c1 c2 c3 c4
            refine wpAnyH_ready (rs := [17]) (by kernel_rfl) (by simp) ?_
            refine AllReadyH.cons (o := (⟨none, Op.store 30 (Operand.tmp 3) (Operand.tmp 27), 0, "ref.go:28", #[⟨16, Ground.data⟩, ⟨15, Ground.data⟩, ⟨10, Ground.chain⟩, ⟨0, Ground.phase⟩, ⟨1, Ground.phase⟩, ⟨2, Ground.phase⟩, ⟨3, Ground.phase⟩, ⟨4, Ground.phase⟩, ⟨5, Ground.phase⟩, ⟨6, Ground.phase⟩, ⟨7, Ground.phase⟩, ⟨8, Ground.phase⟩, ⟨9, Ground.phase⟩, ⟨10, Ground.phase⟩, ⟨11, Ground.phase⟩, ⟨12, Ground.phase⟩, ⟨13, Ground.phase⟩, ⟨14, Ground.phase⟩, ⟨15, Ground.phase⟩, ⟨16, Ground.phase⟩], none⟩ : Oper)) rfl (fun K hK => ?_) AllReadyH.nil
            go_simp
            refine hK.out _ _ (by repeat (first | exact hS | apply fr_new iA)) (fun hS => ?_)
            clear hK K c0 c1 c2 c3 c4 t0 t1 t2 t3 t4
            try simp only [Act.put, List.setIfInBounds_toArray, List.set_cons_zero, List.set_cons_succ]
            have hX := ((((hA.set 0 (.int .i64 (1 + (m0 : Int)))).set 1 (.int .i64 (1 + (m1 : Int)))).set 2 (.string (polZ m2))).set 3 (.slice (some ⟨bM, 0, none⟩) 3 3)).set 4 (.slice none 0 0)
            have hM := hM.fr (F := fun i => i = bA) (w' := ((((W3.setCell ⟨bA, 0, none⟩ (.int .i64 (1 + (m0 : Int)))).setCell ⟨bA, 1, none⟩ (.int .i64 (1 + (m1 : Int)))).setCell ⟨bA, 2, none⟩ (.string (polZ m2))).setCell ⟨bA, 3, none⟩ (.slice (some ⟨bM, 0, none⟩) 3 3)).setCell ⟨bA, 4, none⟩ (.slice none 0 0)) (by repeat (first | exact Fr.refl _ _ | apply fr_res)) (fun q => by omega)
            have nAM : ¬ bA = bM := by omega
            have HX := Lib.hid (And.intro hX (And.intro hM hS))
            clear hX hM hS hA hB
            refine wpAnyH_done (by kernel_rfl) ?_ _
            simp only [Exit.then]
            refine hK0 _ _ (Met.intro (hJ0 _ _ ?_))
            (repeat apply Exists.intro)
            refine ⟨?_, rfl⟩
            exact ⟨bA, bM, _, rfl, HX.out.1, ⟨rfl, rfl, rfl, rfl, rfl⟩, HX.out.2.1, HX.out.2.2, iA, iM, nAM⟩
          exact AllReadyH.nil
        exact AllReadyH.nil
      refine AllReadyH.cons (o := (⟨some 26, Op.makeSlice 28 (Operand.const (Value.int IntKind.i64 3)) (Operand.const (Value.int IntKind.i64 3)), 28, "ref.go:28", #[], none⟩ : Oper)) rfl (fun K hK => ?_) ?_
      · go_simp
        have hM : Blk (W1.alloc (.cells (madeCells #[.slice none 0 0] 3) 34)) W1.heap.size 3 (fun _ => .slice none 0 0) := new3 _
        have gq : Fr NoF W1 (W1.alloc (.cells (madeCells #[.slice none 0 0] 3) 34)) := (Fr.refl NoF W1).alloc _
        have iM : w0.heap.size ≤ W1.heap.size := hS.size
        have lB := hB.lt
        have hB := hB.fr gq id
        have hS1 := hS.trans gq (fun _ q => q.elim)
        clear gq
        generalize W1.alloc (.cells (madeCells #[.slice none 0 0] 3) 34) = W2 at *
        generalize W1.heap.size = bM at *
        refine hK.out _ _ hS1 (fun hS => ?_)
        clear hK K hS1
        try simp only [Act.put, List.setIfInBounds_toArray, List.set_cons_zero, List.set_cons_succ]
        refine wpAnyH_ready (rs := [13, 16]) (by kernel_rfl) (by simp) ?_
        refine AllReadyH.cons (o := (⟨some 25, Op.load 9 (Operand.tmp 24), 9, "ref.go:28", #[⟨12, Ground.data⟩], none⟩ : Oper)) rfl (fun K hK => ?_) ?_
        · have cL := hB.cell r2
          go_simp
          refine hK.out _ _ hS (fun hS => ?_)
          clear hK K cL
          try simp only [Act.put, List.setIfInBounds_toArray, List.set_cons_zero, List.set_cons_succ]
          refine wpAnyH_take (i := 15) (oi := (⟨some 27, Op.build 30 #[(0, Operand.tmp 15), (1, Operand.tmp 19), (2, Operand.tmp 25), (3, Operand.tmp 26)], 30, "ref.go:28", #[⟨3, Ground.data⟩, ⟨7, Ground.data⟩, ⟨13, Ground.data⟩, ⟨14, Ground.data⟩], none⟩ : Oper)) (v := ?_) rfl (by kernel_rfl) (by kernel_rfl) (by kernel_rfl) (fun _ _ _ h => h) (Or.inl ⟨by rfl, ?_⟩) (by assumption) ?_
          rotate_left
          · intro w hSw; (try dsimp only at hSw); go_simp; (try with_reducible rfl)
          simp only [Act.put, List.setIfInBounds_toArray, List.set_cons_zero, List.set_cons_succ]
          refine wpAnyH_ready (rs := [16]) (by kernel_rfl) (by simp) ?_
          refine AllReadyH.cons (o := (⟨some 3, Op.alloc 30, 0, "ref.go:28", #[], none⟩ : Oper)) rfl (fun K hK => ?_) ?_
          · go_simp
            have hA : Blk (W2.alloc (.cells #[.int .i64 0, .int .i64 0, .string ⟨#[]⟩, .slice none 0 0, .slice none 0 0] 30)) W2.heap.size 5 (zScr) := newZ _
            have gq : Fr NoF W2 (W2.alloc (.cells #[.int .i64 0, .int .i64 0, .string ⟨#[]⟩, .slice none 0 0, .slice none 0 0] 30)) := (Fr.refl NoF W2).alloc _
            have iA : w0.heap.size ≤ W2.heap.size := hS.size
            have lB := hB.lt
            have hB := hB.fr gq id
            have lM := hM.lt
            have hM := hM.fr gq id
            have hS1 := hS.trans gq (fun _ q => q.elim)
            clear gq
            generalize W2.alloc (.cells #[.int .i64 0, .int .i64 0, .string ⟨#[]⟩, .slice none 0 0, .slice none 0 0] 30) = W3 at *
            generalize W2.heap.size = bA at *
            refine hK.out _ _ hS1 (fun hS => ?_)
            clear hK K hS1
            try simp only [Act.put, List.setIfInBounds_toArray, List.set_cons_zero, List.set_cons_succ]
            have c0 := hA.cell (i := 0) (by omega)
            have c1 := hA.cell (i := 1) (by omega)
            have c2 := hA.cell (i := 2) (by omega)
            have c3 := hA.cell (i := 3) (by omega)
            have c4 := hA.cell (i := 4) (by omega)
            have t0 := hA.frozen 0
            have t1 := hA.frozen 1
            have t2 := hA.frozen 2
            have t3 := hA.frozen 3
            have t4 := hA.frozen 4
            have lA := hA.lt
            simp only [zScr] at c0 c1 c2 c3 c4
            refine wpAnyH_ready (rs := [17]) (by kernel_rfl) (by simp) ?_
            refine AllReadyH.cons (o := (⟨none, Op.store 30 (Operand.tmp 3) (Operand.tmp 27), 0, "ref.go:28", #[⟨16, Ground.data⟩, ⟨15, Ground.data⟩, ⟨10, Ground.chain⟩, ⟨0, Ground.phase⟩, ⟨1, Ground.phase⟩, ⟨2, Ground.phase⟩, ⟨3, Ground.phase⟩, ⟨4, Ground.phase⟩, ⟨5, Ground.phase⟩, ⟨6, Ground.phase⟩, ⟨7, Ground.phase⟩, ⟨8, Ground.phase⟩, ⟨9, Ground.phase⟩, ⟨10, Ground.phase⟩, ⟨11, Ground.phase⟩, ⟨12, Ground.phase⟩, ⟨13, Ground.phase⟩, ⟨14, Ground.phase⟩, ⟨15, Ground.phase⟩, ⟨16, Ground.phase⟩], none⟩ : Oper)) rfl (fun K hK => ?_) AllReadyH.nil
            go_simp
            refine hK.out _ _ (by repeat (first | exact hS | apply fr_new iA)) (fun hS => ?_)
            clear hK K c0 c1 c2 c3 c4 t0 t1 t2 t3 t4
            try simp only [Act.put, List.setIfInBounds_toArray, List.set_cons_zero, List.set_cons_succ]
            have hX := ((((hA.set 0 (.int .i64 (1 + (m0 : Int)))).set 1 (.int .i64 (1 + (m1 : Int)))).set 2 (.string (polZ m2))).set 3 (.slice (some ⟨bM, 0, none⟩) 3 3)).set 4 (.slice none 0 0)
            have hM := hM.fr (F := fun i => i = bA) (w' := ((((W3.setCell ⟨bA, 0, none⟩ (.int .i64 (1 + (m0 : Int)))).setCell ⟨bA, 1, none⟩ (.int .i64 (1 + (m1 : Int)))).setCell ⟨bA, 2, none⟩ (.string (polZ m2))).setCell ⟨bA, 3, none⟩ (.slice (some ⟨bM, 0, none⟩) 3 3)).setCell ⟨bA, 4, none⟩ (.slice none 0 0)) (by repeat (first | exact Fr.refl _ _ | apply fr_res)) (fun q => by omega)
            have nAM : ¬ bA = bM := by omega
            have HX := Lib.hid (And.intro hX (And.intro hM hS))
            clear hX hM hS hA hB
            refine wpAnyH_done (by kernel_rfl) ?_ _
            simp only [Exit.then]
            refine hK0 _ _ (Met.intro (hJ0 _ _ ?_))
            (repeat apply Exists.intro)
            refine ⟨?_, rfl⟩
            exact ⟨bA, bM, _, rfl, HX.out.1, ⟨rfl, rfl, rfl, rfl, rfl⟩, HX.out.2.1, HX.out.2.2, iA, iM, nAM⟩
          exact AllReadyH.nil
        refine AllReadyH.cons (o := (⟨some 3, Op.alloc 30, 0, "ref.go:28", #[], none⟩ : Oper)) rfl (fun K hK => ?_) ?_
        · go_simp
          have hA : Blk (W2.alloc (.cells #[.int .i64 0, .int .i64 0, .string ⟨#[]⟩, .slice none 0 0, .slice none 0 0] 30)) W2.heap.size 5 (zScr) := newZ _
          have gq : Fr NoF W2 (W2.alloc (.cells #[.int .i64 0, .int .i64 0, .string ⟨#[]⟩, .slice none 0 0, .slice none 0 0] 30)) := (Fr.refl NoF W2).alloc _
          have iA : w0.heap.size ≤ W2.heap.size := hS.size
          have lB := hB.lt
          have hB := hB.fr gq id
          have lM := hM.lt
          have hM := hM.fr gq id
          have hS1 := hS.trans gq (fun _ q => q.elim)
          clear gq
          generalize W2.alloc (.cells #[.int .i64 0, .int .i64 0, .string ⟨#[]⟩, .slice none 0 0, .slice none 0 0] 30) = W3 at *
          generalize W2.heap.size = bA at *
          refine hK.out _ _ hS1 (fun hS => ?_)
          clear hK K hS1
          try simp only [Act.put, List.setIfInBounds_toArray, List.set_cons_zero, List.set_cons_succ]
          refine wpAnyH_ready (rs := [13]) (by kernel_rfl) (by simp) ?_
          refine AllReadyH.cons (o := (⟨some 25, Op.load 9 (Operand.tmp 24), 9, "ref.go:28", #[⟨12, Ground.data⟩], none⟩ : Oper)) rfl (fun K hK => ?_) ?_
          · have cL := hB.cell r2
            go_simp
            refine hK.out _ _ hS (fun hS => ?_)
            clear hK K cL
            try simp only [Act.put, List.setIfInBounds_toArray, List.set_cons_zero, List.set_cons_succ]
            refine wpAnyH_take (i := 15) (oi := (⟨some 27, Op.build 30 #[(0, Operand.tmp 15), (1, Operand.tmp 19), (2, Operand.tmp 25), (3, Operand.tmp 26)], 30, "ref.go:28", #[⟨3, Ground.data⟩, ⟨7, Ground.data⟩, ⟨13, Ground.data⟩, ⟨14, Ground.data⟩], none⟩ : Oper)) (v := ?_) rfl (by kernel_rfl) (by kernel_rfl) (by kernel_rfl) (fun _ _ _ h => h) (Or.inl ⟨by rfl, ?_⟩) (by assumption) ?_
            rotate_left
            · intro w hSw; (try dsimp only at hSw); go_simp; (try with_reducible rfl)
            simp only [Act.put, List.setIfInBounds_toArray, List.set_cons_zero, List.set_cons_succ]
            have c0 := hA.cell (i := 0) (by omega)
            have c1 := hA.cell (i := 1) (by omega)
            have c2 := hA.cell (i := 2) (by omega)
            have c3 := hA.cell (i := 3) (by omega)
            have c4 := hA.cell (i := 4) (by omega)
            have t0 := hA.frozen 0
            have t1 := hA.frozen 1
            have t2 := hA.frozen 2
            have t3 := hA.frozen 3
            have t4 := hA.frozen 4
            have lA := hA.lt
            simp only [zScr] at c0 c1 c2 c3 c4
            refine wpAnyH_ready (rs := [17]) (by kernel_rfl) (by simp) ?_
            refine AllReadyH.cons (o := (⟨none, Op.store 30 (Operand.tmp 3) (Operand.tmp 27), 0, "ref.go:28", #[⟨16, Ground.data⟩, ⟨15, Ground.data⟩, ⟨10, Ground.chain⟩, ⟨0, Ground.phase⟩, ⟨1, Ground.phase⟩, ⟨2, Ground.phase⟩, ⟨3, Ground.phase⟩, ⟨4, Ground.phase⟩, ⟨5, Ground.phase⟩, ⟨6, Ground.phase⟩, ⟨7, Ground.phase⟩, ⟨8, Ground.phase⟩, ⟨9, Ground.phase⟩, ⟨10, Ground.phase⟩, ⟨11, Ground.phase⟩, ⟨12, Ground.phase⟩, ⟨13, Ground.phase⟩, ⟨14, Ground.phase⟩, ⟨15, Ground.phase⟩, ⟨16, Ground.phase⟩], none⟩ : Oper)) rfl (fun K hK => ?_) AllReadyH.nil
            go_simp
            refine hK.out _ _ (by repeat (first | exact hS | apply fr_new iA)) (fun hS => ?_)
            clear hK K c0 c1 c2 c3 c4 t0 t1 t2 t3 t4
            try simp only [Act.put, List.setIfInBounds_toArray, List.set_cons_zero, List.set_cons_succ]
            have hX := ((((hA.set 0 (.int .i64 (1 + (m0 : Int)))).set 1 (.int .i64 (1 + (m1 : Int)))).set 2 (.string (polZ m2))).set 3 (.slice (some ⟨bM, 0, none⟩) 3 3)).set 4 (.slice none 0 0)
            have hM := hM.fr (F := fun i => i = bA) (w' := ((((W3.setCell ⟨bA, 0, none⟩ (.int .i64 (1 + (m0 : Int)))).setCell ⟨bA, 1, none⟩ (.int .i64 (1 + (m1 : Int)))).setCell ⟨bA, 2, none⟩ (.string (polZ m2))).setCell ⟨bA, 3, none⟩ (.slice (some ⟨bM, 0, none⟩) 3 3)).setCell ⟨bA, 4, none⟩ (.slice none 0 0)) (by repeat (first | exact Fr.refl _ _ | apply fr_res)) (fun q => by omega)
            have nAM : ¬ bA = bM := by omega
            have HX := Lib.hid (And.intro hX (And.intro hM hS))
            clear hX hM hS hA hB
            refine wpAnyH_done (by kernel_rfl) ?_ _
            simp only [Exit.then]
            refine hK0 _ _ (Met.intro (hJ0 _ _ ?_))
            (repeat apply Exists.intro)
            refine ⟨?_, rfl⟩
            exact ⟨bA, bM, _, rfl, HX.out.1, ⟨rfl, rfl, rfl, rfl, rfl⟩, HX.out.2.1, HX.out.2.2, iA, iM, nAM⟩
          exact AllReadyH.nil
        exact AllReadyH.nil
      refine AllReadyH.cons (o := (⟨some 3, Op.alloc 30, 0, "ref.go:28", #[], none⟩ : Oper)) rfl (fun K hK => ?_) ?_
      · go_simp
        have hA : Blk (W1.alloc (.cells #[.int .i64 0, .int .i64 0, .string ⟨#[]⟩, .slice none 0 0, .slice none 0 0] 30)) W1.heap.size 5 (zScr) := newZ _
        have gq : Fr NoF W1 (W1.alloc (.cells #[.int .i64 0, .int .i64 0, .string ⟨#[]⟩, .slice none 0 0, .slice none 0 0] 30)) := (Fr.refl NoF W1).alloc _
        have iA : w0.heap.size ≤ W1.heap.size := hS.size
        have lB := hB.lt
        have hB := hB.fr gq id
        have hS1 := hS.trans gq (fun _ q => q.elim)
        clear gq
        generalize W1.alloc (.cells #[.int .i64 0, .int .i64 0, .string ⟨#[]⟩, .slice none 0 0, .slice none 0 0] 30) = W2 at *
        generalize W1.heap.size = bA at *
        refine hK.out _ _ hS1 (fun hS => ?_)
        clear hK K hS1
        try simp only [Act.put, List.setIfInBounds_toArray, List.set_cons_zero, List.set_cons_succ]
        refine wpAnyH_ready (rs := [13, 14]) (by kernel_rfl) (by simp) ?_
        refine AllReadyH.cons (o := (⟨some 25, Op.load 9 (Operand.tmp 24), 9, "ref.go:28", #[⟨12, Ground.data⟩], none⟩ : Oper)) rfl (fun K hK => ?_) ?_
        · have cL := hB.cell r2
          go_simp
          refine hK.out _ _ hS (fun hS => ?_)
          clear hK K cL
          try simp only [Act.put, List.setIfInBounds_toArray, List.set_cons_zero, List.set_cons_succ]
          refine wpAnyH_ready (rs := [14]) (by kernel_rfl) (by simp) ?_
          refine AllReadyH.cons (o := (⟨some 26, Op.makeSlice 28 (Operand.const (Value.int IntKind.i64 3)) (Operand.const (Value.int IntKind.i64 3)), 28, "ref.go:28", #[], none⟩ : Oper)) rfl (fun K hK => ?_) ?_
          · go_simp
            have hM : Blk (W2.alloc (.cells (madeCells #[.slice none 0 0] 3) 34)) W2.heap.size 3 (fun _ => .slice none 0 0) := new3 _
            have gq : Fr NoF W2 (W2.alloc (.cells (madeCells #[.slice none 0 0] 3) 34)) := (Fr.refl NoF W2).alloc _
            have iM : w0.heap.size ≤ W2.heap.size := hS.size
            have lB := hB.lt
            have hB := hB.fr gq id
            have lA := hA.lt
            have hA := hA.fr gq id
            have hS1 := hS.trans gq (fun _ q => q.elim)
            clear gq
            generalize W2.alloc (.cells (madeCells #[.slice none 0 0] 3) 34) = W3 at *
            generalize W2.heap.size = bM at *
            refine hK.out _ _ hS1 (fun hS => ?_)
            clear hK K hS1
            try simp only [Act.put, List.setIfInBounds_toArray, List.set_cons_zero, List.set_cons_succ]
            refine wpAnyH_take (i := 15) (oi := (⟨some 27, Op.build 30 #[(0, Operand.tmp 15), (1, Operand.tmp 19), (2, Operand.tmp 25), (3, Operand.tmp 26)], 30, "ref.go:28", #[⟨3, Ground.data⟩, ⟨7, Ground.data⟩, ⟨13, Ground.data⟩, ⟨14, Ground.data⟩], none⟩ : Oper)) (v := ?_) rfl (by kernel_rfl) (by kernel_rfl) (by kernel_rfl) (fun _ _ _ h => h) (Or.inl ⟨by rfl, ?_⟩) (by assumption) ?_
            rotate_left
            · intro w hSw; (try dsimp only at hSw); go_simp; (try with_reducible rfl)
            simp only [Act.put, List.setIfInBounds_toArray, List.set_cons_zero, List.set_cons_succ]
            have c0 := hA.cell (i := 0) (by omega)
            have c1 := hA.cell (i := 1) (by omega)
            have c2 := hA.cell (i := 2) (by omega)
            have c3 := hA.cell (i := 3) (by omega)
            have c4 := hA.cell (i := 4) (by omega)
            have t0 := hA.frozen 0
            have t1 := hA.frozen 1
            have t2 := hA.frozen 2
            have t3 := hA.frozen 3
            have t4 := hA.frozen 4
            have lA := hA.lt
            simp only [zScr] at c0 c1 c2 c3 c4
            refine wpAnyH_ready (rs := [17]) (by kernel_rfl) (by simp) ?_
            refine AllReadyH.cons (o := (⟨none, Op.store 30 (Operand.tmp 3) (Operand.tmp 27), 0, "ref.go:28", #[⟨16, Ground.data⟩, ⟨15, Ground.data⟩, ⟨10, Ground.chain⟩, ⟨0, Ground.phase⟩, ⟨1, Ground.phase⟩, ⟨2, Ground.phase⟩, ⟨3, Ground.phase⟩, ⟨4, Ground.phase⟩, ⟨5, Ground.phase⟩, ⟨6, Ground.phase⟩, ⟨7, Ground.phase⟩, ⟨8, Ground.phase⟩, ⟨9, Ground.phase⟩, ⟨10, Ground.phase⟩, ⟨11, Ground.phase⟩, ⟨12, Ground.phase⟩, ⟨13, Ground.phase⟩, ⟨14, Ground.phase⟩, ⟨15, Ground.phase⟩, ⟨16, Ground.phase⟩], none⟩ : Oper)) rfl (fun K hK => ?_) AllReadyH.nil
            go_simp
            refine hK.out _ _ (by repeat (first | exact hS | apply fr_new iA)) (fun hS => ?_)
            clear hK K c0 c1 c2 c3 c4 t0 t1 t2 t3 t4
            try simp only [Act.put, List.setIfInBounds_toArray, List.set_cons_zero, List.set_cons_succ]
            have hX := ((((hA.set 0 (.int .i64 (1 + (m0 : Int)))).set 1 (.int .i64 (1 + (m1 : Int)))).set 2 (.string (polZ m2))).set 3 (.slice (some ⟨bM, 0, none⟩) 3 3)).set 4 (.slice none 0 0)
            have hM := hM.fr (F := fun i => i = bA) (w' := ((((W3.setCell ⟨bA, 0, none⟩ (.int .i64 (1 + (m0 : Int)))).setCell ⟨bA, 1, none⟩ (.int .i64 (1 + (m1 : Int)))).setCell ⟨bA, 2, none⟩ (.string (polZ m2))).setCell ⟨bA, 3, none⟩ (.slice (some ⟨bM, 0, none⟩) 3 3)).setCell ⟨bA, 4, none⟩ (.slice none 0 0)) (by repeat (first | exact Fr.refl _ _ | apply fr_res)) (fun q => by omega)
            have nAM : ¬ bA = bM := by omega
            have HX := Lib.hid (And.intro hX (And.intro hM hS))
            clear hX hM hS hA hB
            refine wpAnyH_done (by kernel_rfl) ?_ _
            simp only [Exit.then]
            refine hK0 _ _ (Met.intro (hJ0 _ _ ?_))
            (repeat apply Exists.intro)
            refine ⟨?_, rfl⟩
            exact ⟨bA, bM, _, rfl, HX.out.1, ⟨rfl, rfl, rfl, rfl, rfl⟩, HX.out.2.1, HX.out.2.2, iA, iM, nAM⟩
          exact AllReadyH.nil
        refine AllReadyH.cons (o := (⟨some 26, Op.makeSlice 28 (Operand.const (Value.int IntKind.i64 3)) (Operand.const (Value.int IntKind.i64 3)), 28, "ref.go:28", #[], none⟩ : Oper)) rfl (fun K hK => ?_) ?_
        · go_simp
          have hM : Blk (W2.alloc (.cells (madeCells #[.slice none 0 0] 3) 34)) W2.heap.size 3 (fun _ => .slice none 0 0) := new3 _
          have gq : Fr NoF W2 (W2.alloc (.cells (madeCells #[.slice none 0 0] 3) 34)) := (Fr.refl NoF W2).alloc _
          have iM : w0.heap.size ≤ W2.heap.size := hS.size
          have lB := hB.lt
          have hB := hB.fr gq id
          have lA := hA.lt
          have hA := hA.fr gq id
          have hS1 := hS.trans gq (fun _ q => q.elim)
          clear gq
          generalize W2.alloc (.cells (madeCells #[.slice none 0 0] 3) 34) = W3 at *
          generalize W2.heap.size = bM at *
          refine hK.out _ _ hS1 (fun hS => ?_)
          clear hK K hS1
          try simp only [Act.put, List.setIfInBounds_toArray, List.set_cons_zero, List.set_cons_succ]
          refine wpAnyH_ready (rs := [13]) (by kernel_rfl) (by simp) ?_
          refine AllReadyH.cons (o := (⟨some 25, Op.load 9 (Operand.tmp 24), 9, "ref.go:28", #[⟨12, Ground.data⟩], none⟩ : Oper)) rfl (fun K hK => ?_) ?_
          · have cL := hB.cell r2
            go_simp
            refine hK.out _ _ hS (fun hS => ?_)
            clear hK K cL
            try simp only [Act.put, List.setIfInBounds_toArray, List.set_cons_zero, List.set_cons_succ]
            refine wpAnyH_take (i := 15) (oi := (⟨some 27, Op.build 30 #[(0, Operand.tmp 15), (1, Operand.tmp 19), (2, Operand.tmp 25), (3, Operand.tmp 26)], 30, "ref.go:28", #[⟨3, Ground.data⟩, ⟨7, Ground.data⟩, ⟨13, Ground.data⟩, ⟨14, Ground.data⟩], none⟩ : Oper)) (v := ?_) rfl (by kernel_rfl) (by kernel_rfl) (by kernel_rfl) (fun _ _ _ h => h) (Or.inl ⟨by rfl, ?_⟩) (by assumption) ?_
            rotate_left
            · intro w hSw; (try dsimp only at hSw); go_simp; (try with_reducible rfl)
            simp only [Act.put, List.setIfInBounds_toArray, List.set_cons_zero, List.set_cons_succ]
            have c0 := hA.cell (i := 0) (by omega)
            have c1 := hA.cell (i := 1) (by omega)
            have c2 := hA.cell (i := 2) (by omega)
            have c3 := hA.cell (i := 3) (by omega)
            have c4 := hA.cell (i := 4) (by omega)
            have t0 := hA.frozen 0
            have t1 := hA.frozen 1
            have t2 := hA.frozen 2
            have t3 := hA.frozen 3
            have t4 := hA.frozen 4
            have lA := hA.lt
            simp only [zScr] at c0 c1 c2 c3 c4
            refine wpAnyH_ready (rs := [17]) (by kernel_rfl) (by simp) ?_
            refine AllReadyH.cons (o := (⟨none, Op.store 30 (Operand.tmp 3) (Operand.tmp 27), 0, "ref.go:28", #[⟨16, Ground.data⟩, ⟨15, Ground.data⟩, ⟨10, Ground.chain⟩, ⟨0, Ground.phase⟩, ⟨1, Ground.phase⟩, ⟨2, Ground.phase⟩, ⟨3, Ground.phase⟩, ⟨4, Ground.phase⟩, ⟨5, Ground.phase⟩, ⟨6, Ground.phase⟩, ⟨7, Ground.phase⟩, ⟨8, Ground.phase⟩, ⟨9, Ground.phase⟩, ⟨10, Ground.phase⟩, ⟨11, Ground.phase⟩, ⟨12, Ground.phase⟩, ⟨13, Ground.phase⟩, ⟨14, Ground.phase⟩, ⟨15, Ground.phase⟩, ⟨16, Ground.phase⟩], none⟩ : Oper)) rfl (fun K hK => ?_) AllReadyH.nil
            go_simp
            refine hK.out _ _ (by repeat (first | exact hS | apply fr_new iA)) (fun hS => ?_)
            clear hK K c0 c1 c2 c3 c4 t0 t1 t2 t3 t4
            try simp only [Act.put, List.setIfInBounds_toArray, List.set_cons_zero, List.set_cons_succ]
            have hX := ((((hA.set 0 (.int .i64 (1 + (m0 : Int)))).set 1 (.int .i64 (1 + (m1 : Int)))).set 2 (.string (polZ m2))).set 3 (.slice (some ⟨bM, 0, none⟩) 3 3)).set 4 (.slice none 0 0)
            have hM := hM.fr (F := fun i => i = bA) (w' := ((((W3.setCell ⟨bA, 0, none⟩ (.int .i64 (1 + (m0 : Int)))).setCell ⟨bA, 1, none⟩ (.int .i64 (1 + (m1 : Int)))).setCell ⟨bA, 2, none⟩ (.string (polZ m2))).setCell ⟨bA, 3, none⟩ (.slice (some ⟨bM, 0, none⟩) 3 3)).setCell ⟨bA, 4, none⟩ (.slice none 0 0)) (by repeat (first | exact Fr.refl _ _ | apply fr_res)) (fun q => by omega)
            have nAM : ¬ bA = bM := by omega
            have HX := Lib.hid (And.intro hX (And.intro hM hS))
            clear hX hM hS hA hB
            refine wpAnyH_done (by kernel_rfl) ?_ _
            simp only [Exit.then]
            refine hK0 _ _ (Met.intro (hJ0 _ _ ?_))
            (repeat apply Exists.intro)
            refine ⟨?_, rfl⟩
            exact ⟨bA, bM, _, rfl, HX.out.1, ⟨rfl, rfl, rfl, rfl, rfl⟩, HX.out.2.1, HX.out.2.2, iA, iM, nAM⟩
          exact AllReadyH.nil
        exact AllReadyH.nil
      exact AllReadyH.nil
    refine AllReadyH.cons (o := (⟨some 26, Op.makeSlice 28 (Operand.const (Value.int IntKind.i64 3)) (Operand.const (Value.int IntKind.i64 3)), 28, "ref.go:28", #[], none⟩ : Oper)) rfl (fun K hK => ?_) ?_
    · go_simp
      have hM : Blk (W0.alloc (.cells (madeCells #[.slice none 0 0] 3) 34)) W0.heap.size 3 (fun _ => .slice none 0 0) := new3 _
      have gq : Fr NoF W0 (W0.alloc (.cells (madeCells #[.slice none 0 0] 3) 34)) := (Fr.refl NoF W0).alloc _
      have iM : w0.heap.size ≤ W0.heap.size := hS.size
      have hS1 := hS.trans gq (fun _ q => q.elim)
      clear gq
      generalize W0.alloc (.cells (madeCells #[.slice none 0 0] 3) 34) = W1 at *
      generalize W0.heap.size = bM at *
      refine hK.out _ _ hS1 (fun hS => ?_)
      clear hK K hS1
      try simp only [Act.put, List.setIfInBounds_toArray, List.set_cons_zero, List.set_cons_succ]
      refine wpAnyH_ready (rs := [8, 16]) (by kernel_rfl) (by simp) ?_
      refine AllReadyH.cons (o := (⟨some 20, Op.buildSlice 56 5 #[(0, Operand.const (Value.string { data := #[108, 114, 117] })), (1, Operand.const (Value.string { data := #[108, 114, 117, 107] })), (2, Operand.const (Value.string { data := #[116, 119, 111, 113] })), (3, Operand.const (Value.string { data := #[97, 114, 99] })), (4, Operand.const (Value.string { data := #[112, 114, 111] }))], 56, "ref.go:28", #[], none⟩ : Oper)) rfl (fun K hK => ?_) ?_
      · go_simp
        have hB : Blk (W1.alloc (.cells #[.string ⟨#[108, 114, 117]⟩, .string ⟨#[108, 114, 117, 107]⟩, .string ⟨#[116, 119, 111, 113]⟩, .string ⟨#[97, 114, 99]⟩, .string ⟨#[112, 114, 111]⟩] 9)) W1.heap.size 5 (fun i => .string (polZ i)) := new5 _
        have gq : Fr NoF W1 (W1.alloc (.cells #[.string ⟨#[108, 114, 117]⟩, .string ⟨#[108, 114, 117, 107]⟩, .string ⟨#[116, 119, 111, 113]⟩, .string ⟨#[97, 114, 99]⟩, .string ⟨#[112, 114, 111]⟩] 9)) := (Fr.refl NoF W1).alloc _
        have iB : w0.heap.size ≤ W1.heap.size := hS.size
        have lM := hM.lt
        have hM := hM.fr gq id
        have hS1 := hS.trans gq (fun _ q => q.elim)
        clear gq
        generalize W1.alloc (.cells #[.string ⟨#[108, 114, 117]⟩, .string ⟨#[108, 114, 117, 107]⟩, .string ⟨#[116, 119, 111, 113]⟩, .string ⟨#[97, 114, 99]⟩, .string ⟨#[112, 114, 111]⟩] 9) = W2 at *
        generalize W1.heap.size = bB at *
        refine hK.out _ _ hS1 (fun hS => ?_)
        clear hK K hS1
        try simp only [Act.put, List.setIfInBounds_toArray, List.set_cons_zero, List.set_cons_succ]
        refine wpAnyH_take (i := 12) (oi := (⟨some 24, Op.indexAddr 56 (Operand.tmp 20) (Operand.tmp 23), 0, "ref.go:28", #[⟨8, Ground.data⟩, ⟨11, Ground.data⟩], none⟩ : Oper)) (v := ?_) rfl (by kernel_rfl) (by kernel_rfl) (by kernel_rfl) (fun _ _ _ h => h) (Or.inl ⟨by rfl, ?_⟩) (by assumption) ?_
        rotate_left
        · intro w hSw; (try dsimp only at hSw); go_simp; (try with_reducible rfl)
        simp only [Act.put, List.setIfInBounds_toArray, List.set_cons_zero, List.set_cons_succ]
        refine wpAnyH_ready (rs := [13, 16]) (by kernel_rfl) (by simp) ?_
        refine AllReadyH.cons (o := (⟨some 25, Op.load 9 (Operand.tmp 24), 9, "ref.go:28", #[⟨12, Ground.data⟩], none⟩ : Oper)) rfl (fun K hK => ?_) ?_
        · have cL := hB.cell r2
          go_simp
          refine hK.out _ _ hS (fun hS => ?_)
          clear hK K cL
          try simp only [Act.put, List.setIfInBounds_toArray, List.set_cons_zero, List.set_cons_succ]
          refine wpAnyH_take (i := 15) (oi := (⟨some 27, Op.build 30 #[(0, Operand.tmp 15), (1, Operand.tmp 19), (2, Operand.tmp 25), (3, Operand.tmp 26)], 30, "ref.go:28", #[⟨3, Ground.data⟩, ⟨7, Ground.data⟩, ⟨13, Ground.data⟩, ⟨14, Ground.data⟩], none⟩ : Oper)) (v := ?_) rfl (by kernel_rfl) (by kernel_rfl) (by kernel_rfl) (fun _ _ _ h => h) (Or.inl ⟨by rfl, ?_⟩) (by assumption) ?_
          rotate_left
          · intro w hSw; (try dsimp only at hSw); go_simp; (try with_reducible rfl)
          simp only [Act.put, List.setIfInBounds_toArray, List.set_cons_zero, List.set_cons_succ]
          refine wpAnyH_ready (rs := [16]) (by kernel_rfl) (by simp) ?_
          refine AllReadyH.cons (o := (⟨some 3, Op.alloc 30, 0, "ref.go:28", #[], none⟩ : Oper)) rfl (fun K hK => ?_) ?_
          · go_simp
            have hA : Blk (W2.alloc (.cells #[.int .i64 0, .int .i64 0, .string ⟨#[]⟩, .slice none 0 0, .slice none 0 0] 30)) W2.heap.size 5 (zScr) := newZ _
            have gq : Fr NoF W2 (W2.alloc (.cells #[.int .i64 0, .int .i64 0, .string ⟨#[]⟩, .slice none 0 0, .slice none 0 0] 30)) := (Fr.refl NoF W2).alloc _
            have iA : w0.heap.size ≤ W2.heap.size := hS.size
            have lB := hB.lt
            have hB := hB.fr gq id
            have lM := hM.lt
            have hM := hM.fr gq id
            have hS1 := hS.trans gq (fun _ q => q.elim)
            clear gq
            generalize W2.alloc (.cells #[.int .i64 0, .int .i64 0, .string ⟨#[]⟩, .slice none 0 0, .slice none 0 0] 30) = W3 at *
            generalize W2.heap.size = bA at *
            refine hK.out _ _ hS1 (fun hS => ?_)
            clear hK K hS1
            try simp only [Act.put, List.setIfInBounds_toArray, List.set_cons_zero, List.set_cons_succ]
            have c0 := hA.cell (i := 0) (by omega)
            have c1 := hA.cell (i := 1) (by omega)
            have c2 := hA.cell (i := 2) (by omega)
            have c3 := hA.cell (i := 3) (by omega)
            have c4 := hA.cell (i := 4) (by omega)
            have t0 := hA.frozen 0
            have t1 := hA.frozen 1
            have t2 := hA.frozen 2
            have t3 := hA.frozen 3
            have t4 := hA.frozen 4
            have lA := hA.lt
            simp only [zScr] at c0 c1 c2 c3 c4
            refine wpAnyH_ready (rs := [17]) (by kernel_rfl) (by simp) ?_
            refine AllReadyH.cons (o := (⟨none, Op.store 30 (Operand.tmp 3) (Operand.tmp 27), 0, "ref.go:28", #[⟨16, Ground.data⟩, ⟨15, Ground.data⟩, ⟨10, Ground.chain⟩, ⟨0, Ground.phase⟩, ⟨1, Ground.phase⟩, ⟨2, Ground.phase⟩, ⟨3, Ground.phase⟩, ⟨4, Ground.phase⟩, ⟨5, Ground.phase⟩, ⟨6, Ground.phase⟩, ⟨7, Ground.phase⟩, ⟨8, Ground.phase⟩, ⟨9, Ground.phase⟩, ⟨10, Ground.phase⟩, ⟨11, Ground.phase⟩, ⟨12, Ground.phase⟩, ⟨13, Ground.phase⟩, ⟨14, Ground.phase⟩, ⟨15, Ground.phase⟩, ⟨16, Ground.phase⟩], none⟩ : Oper)) rfl (fun K hK => ?_) AllReadyH.nil
            go_simp
            refine hK.out _ _ (by repeat (first | exact hS | apply fr_new iA)) (fun hS => ?_)
            clear hK K c0 c1 c2 c3 c4 t0 t1 t2 t3 t4
            try simp only [Act.put, List.setIfInBounds_toArray, List.set_cons_zero, List.set_cons_succ]
            have hX := ((((hA.set 0 (.int .i64 (1 + (m0 : Int)))).set 1 (.int .i64 (1 + (m1 : Int)))).set 2 (.string (polZ m2))).set 3 (.slice (some ⟨bM, 0, none⟩) 3 3)).set 4 (.slice none 0 0)
            have hM := hM.fr (F := fun i => i = bA) (w' := ((((W3.setCell ⟨bA, 0, none⟩ (.int .i64 (1 + (m0 : Int)))).setCell ⟨bA, 1, none⟩ (.int .i64 (1 + (m1 : Int)))).setCell ⟨bA, 2, none⟩ (.string (polZ m2))).setCell ⟨bA, 3, none⟩ (.slice (some ⟨bM, 0, none⟩) 3 3)).setCell ⟨bA, 4, none⟩ (.slice none 0 0)) (by repeat (first | exact Fr.refl _ _ | apply fr_res)) (fun q => by omega)
            have nAM : ¬ bA = bM := by omega
            have HX := Lib.hid (And.intro hX (And.intro hM hS))
            clear hX hM hS hA hB
            refine wpAnyH_done (by kernel_rfl) ?_ _
            simp only [Exit.then]
            refine hK0 _ _ (Met.intro (hJ0 _ _ ?_))
            (repeat apply Exists.intro)
            refine ⟨?_, rfl⟩
            exact ⟨bA, bM, _, rfl, HX.out.1, ⟨rfl, rfl, rfl, rfl, rfl⟩, HX.out.2.1, HX.out.2.2, iA, iM, nAM⟩
          exact AllReadyH.nil
        refine AllReadyH.cons (o := (⟨some 3, Op.alloc 30, 0, "ref.go:28", #[], none⟩ : Oper)) rfl (fun K hK => ?_) ?_
        · go_simp
          have hA : Blk (W2.alloc (.cells #[.int .i64 0, .int .i64 0, .string ⟨#[]⟩, .slice none 0 0, .slice none 0 0] 30)) W2.heap.size 5 (zScr) := newZ _
          have gq : Fr NoF W2 (W2.alloc (.cells #[.int .i64 0, .int .i64 0, .string ⟨#[]⟩, .slice none 0 0, .slice none 0 0] 30)) := (Fr.refl NoF W2).alloc _
          have iA : w0.heap.size ≤ W2.heap.size := hS.size
          have lB := hB.lt
          have hB := hB.fr gq id
          have lM := hM.lt
          have hM := hM.fr gq id
          have hS1 := hS.trans gq (fun _ q => q.elim)
          clear gq
          generalize W2.alloc (.cells #[.int .i64 0, .int .i64 0, .string ⟨#[]⟩, .slice none 0 0, .slice none 0 0] 30) = W3 at *
          generalize W2.heap.size = bA at *
          refine hK.out _ _ hS1 (fun hS => ?_)
          clear hK K hS1
          try simp only [Act.put, List.setIfInBounds_toArray, List.set_cons_zero, List.set_cons_succ]
          refine wpAnyH_ready (rs := [13]) (by kernel_rfl) (by simp) ?_
          refine AllReadyH.cons (o := (⟨some 25, Op.load 9 (Operand.tmp 24), 9, "ref.go:28", #[⟨12, Ground.data⟩], none⟩ : Oper)) rfl (fun K hK => ?_) ?_
          · have cL := hB.cell r2
            go_simp
            refine hK.out _ _ hS (fun hS => ?_)
            clear hK K cL
            try simp only [Act.put, List.setIfInBounds_toArray, List.set_cons_zero, List.set_cons_succ]
            refine wpAnyH_take (i := 15) (oi := (⟨some 27, Op.build 30 #[(0, Operand.tmp 15), (1, Operand.tmp 19), (2, Operand.tmp 25), (3, Operand.tmp 26)], 30, "ref.go:28", #[⟨3, Ground.data⟩, ⟨7, Ground.data⟩, ⟨13, Ground.data⟩, ⟨14, Ground.data⟩], none⟩ : Oper)) (v := ?_) rfl (by kernel_rfl) (by kernel_rfl) (by kernel_rfl) (fun _ _ _ h => h) (Or.inl ⟨by rfl, ?_⟩) (by assumption) ?_
            rotate_left
            · intro w hSw; (try dsimp only at hSw); go_simp; (try with_reducible rfl)
            simp only [Act.put, List.setIfInBounds_toArray, List.set_cons_zero, List.set_cons_succ]
            have c0 := hA.cell (i := 0) (by omega)
            have c1 := hA.cell (i := 1) (by omega)
            have c2 := hA.cell (i := 2) (by omega)
            have c3 := hA.cell (i := 3) (by omega)
            have c4 := hA.cell (i := 4) (by omega)
            have t0 := hA.frozen 0
            have t1 := hA.frozen 1
            have t2 := hA.frozen 2
            have t3 := hA.frozen 3
            have t4 := hA.frozen 4
            have lA := hA.lt
            simp only [zScr] at c0 c1 c2 c3 c4
            refine wpAnyH_ready (rs := [17]) (by kernel_rfl) (by simp) ?_
            refine AllReadyH.cons (o := (⟨none, Op.store 30 (Operand.tmp 3) (Operand.tmp 27), 0, "ref.go:28", #[⟨16, Ground.data⟩, ⟨15, Ground.data⟩, ⟨10, Ground.chain⟩, ⟨0, Ground.phase⟩, ⟨1, Ground.phase⟩, ⟨2, Ground.phase⟩, ⟨3, Ground.phase⟩, ⟨4, Ground.phase⟩, ⟨5, Ground.phase⟩, ⟨6, Ground.phase⟩, ⟨7, Ground.phase⟩, ⟨8, Ground.phase⟩, ⟨9, Ground.phase⟩, ⟨10, Ground.phase⟩, ⟨11, Ground.phase⟩, ⟨12, Ground.phase⟩, ⟨13, Ground.phase⟩, ⟨14, Ground.phase⟩, ⟨15, Ground.phase⟩, ⟨16, Ground.phase⟩], none⟩ : Oper)) rfl (fun K hK => ?_) AllReadyH.nil
            go_simp
            refine hK.out _ _ (by repeat (first | exact hS | apply fr_new iA)) (fun hS => ?_)
            clear hK K c0 c1 c2 c3 c4 t0 t1 t2 t3 t4
            try simp only [Act.put, List.setIfInBounds_toArray, List.set_cons_zero, List.set_cons_succ]
            have hX := ((((hA.set 0 (.int .i64 (1 + (m0 : Int)))).set 1 (.int .i64 (1 + (m1 : Int)))).set 2 (.string (polZ m2))).set 3 (.slice (some ⟨bM, 0, none⟩) 3 3)).set 4 (.slice none 0 0)
            have hM := hM.fr (F := fun i => i = bA) (w' := ((((W3.setCell ⟨bA, 0, none⟩ (.int .i64 (1 + (m0 : Int)))).setCell ⟨bA, 1, none⟩ (.int .i64 (1 + (m1 : Int)))).setCell ⟨bA, 2, none⟩ (.string (polZ m2))).setCell ⟨bA, 3, none⟩ (.slice (some ⟨bM, 0, none⟩) 3 3)).setCell ⟨bA, 4, none⟩ (.slice none 0 0)) (by repeat (first | exact Fr.refl _ _ | apply fr_res)) (fun q => by omega)
            have nAM : ¬ bA = bM := by omega
            have HX := Lib.hid (And.intro hX (And.intro hM hS))
            clear hX hM hS hA hB
            refine wpAnyH_done (by kernel_rfl) ?_ _
            simp only [Exit.then]
            refine hK0 _ _ (Met.intro (hJ0 _ _ ?_))
            (repeat apply Exists.intro)
            refine ⟨?_, rfl⟩
            exact ⟨bA, bM, _, rfl, HX.out.1, ⟨rfl, rfl, rfl, rfl, rfl⟩, HX.out.2.1, HX.out.2.2, iA, iM, nAM⟩
          exact AllReadyH.nil
        exact AllReadyH.nil
      refine AllReadyH.cons (o := (⟨some 3, Op.alloc 30, 0, "ref.go:28", #[], none⟩ : Oper)) rfl (fun K hK => ?_) ?_
      · go_simp
        have hA : Blk (W1.alloc (.cells #[.int .i64 0, .int .i64 0, .string ⟨#[]⟩, .slice none 0 0, .slice none 0 0] 30)) W1.heap.size 5 (zScr) := newZ _
        have gq : Fr NoF W1 (W1.alloc (.cells #[.int .i64 0, .int .i64 0, .string ⟨#[]⟩, .slice none 0 0, .slice none 0 0] 30)) := (Fr.refl NoF W1).alloc _
        have iA : w0.heap.size ≤ W1.heap.size := hS.size
        have lM := hM.lt
        have hM := hM.fr gq id
        have hS1 := hS.trans gq (fun _ q => q.elim)
        clear gq
        generalize W1.alloc (.cells #[.int .i64 0, .int .i64 0, .string ⟨#[]⟩, .slice none 0 0, .slice none 0 0] 30) = W2 at *
        generalize W1.heap.size = bA at *
        refine hK.out _ _ hS1 (fun hS => ?_)
        clear hK K hS1
        try simp only [Act.put, List.setIfInBounds_toArray, List.set_cons_zero, List.set_cons_succ]
        refine wpAnyH_ready (rs := [8]) (by kernel_rfl) (by simp) ?_
        refine AllReadyH.cons (o := (⟨some 20, Op.buildSlice 56 5 #[(0, Operand.const (Value.string { data := #[108, 114, 117] })), (1, Operand.const (Value.string { data := #[108, 114, 117, 107] })), (2, Operand.const (Value.string { data := #[116, 119, 111, 113] })), (3, Operand.const (Value.string { data := #[97, 114, 99] })), (4, Operand.const (Value.string { data := #[112, 114, 111] }))], 56, "ref.go:28", #[], none⟩ : Oper)) rfl (fun K hK => ?_) ?_
        · go_simp
          have hB : Blk (W2.alloc (.cells #[.string ⟨#[108, 114, 117]⟩, .string ⟨#[108, 114, 117, 107]⟩, .string ⟨#[116, 119, 111, 113]⟩, .string ⟨#[97, 114, 99]⟩, .string ⟨#[112, 114, 111]⟩] 9)) W2.heap.size 5 (fun i => .string (polZ i)) := new5 _
          have gq : Fr NoF W2 (W2.alloc (.cells #[.string ⟨#[108, 114, 117]⟩, .string ⟨#[108, 114, 117, 107]⟩, .string ⟨#[116, 119, 111, 113]⟩, .string ⟨#[97, 114, 99]⟩, .string ⟨#[112, 114, 111]⟩] 9)) := (Fr.refl NoF W2).alloc _
          have iB : w0.heap.size ≤ W2.heap.size := hS.size
          have lM := hM.lt
          have hM := hM.fr gq id
          have lA := hA.lt
          have hA := hA.fr gq id
          have hS1 := hS.trans gq (fun _ q => q.elim)
          clear gq
          generalize W2.alloc (.cells #[.string ⟨#[108, 114, 117]⟩, .string ⟨#[108, 114, 117, 107]⟩, .string ⟨#[116, 119, 111, 113]⟩, .string ⟨#[97, 114, 99]⟩, .string ⟨#[112, 114, 111]⟩] 9) = W3 at *
          generalize W2.heap.size = bB at *
          refine hK.out _ _ hS1 (fun hS => ?_)
          clear hK K hS1
          try simp only [Act.put, List.setIfInBounds_toArray, List.set_cons_zero, List.set_cons_succ]
          refine wpAnyH_take (i := 12) (oi := (⟨some 24, Op.indexAddr 56 (Operand.tmp 20) (Operand.tmp 23), 0, "ref.go:28", #[⟨8, Ground.data⟩, ⟨11, Ground.data⟩], none⟩ : Oper)) (v := ?_) rfl (by kernel_rfl) (by kernel_rfl) (by kernel_rfl) (fun _ _ _ h => h) (Or.inl ⟨by rfl, ?_⟩) (by assumption) ?_
          rotate_left
          · intro w hSw; (try dsimp only at hSw); go_simp; (try with_reducible rfl)
          simp only [Act.put, List.setIfInBounds_toArray, List.set_cons_zero, List.set_cons_succ]
          refine wpAnyH_ready (rs := [13]) (by kernel_rfl) (by simp) ?_
          refine AllReadyH.cons (o := (⟨some 25, Op.load 9 (Operand.tmp 24), 9, "ref.go:28", #[⟨12, Ground.data⟩], none⟩ : Oper)) rfl (fun K hK => ?_) ?_
          · have cL := hB.cell r2
            go_simp
            refine hK.out _ _ hS (fun hS => ?_)
            clear hK K cL
            try simp only [Act.put, List.setIfInBounds_toArray, List.set_cons_zero, List.set_cons_succ]
            refine wpAnyH_take (i := 15) (oi := (⟨some 27, Op.build 30 #[(0, Operand.tmp 15), (1, Operand.tmp 19), (2, Operand.tmp 25), (3, Operand.tmp 26)], 30, "ref.go:28", #[⟨3, Ground.data⟩, ⟨7, Ground.data⟩, ⟨13, Ground.data⟩, ⟨14, Ground.data⟩], none⟩ : Oper)) (v := ?_) rfl (by kernel_rfl) (by kernel_rfl) (by kernel_rfl) (fun _ _ _ h => h) (Or.inl ⟨by rfl, ?_⟩) (by assumption) ?_
            rotate_left
            · intro w hSw; (try dsimp only at hSw); go_simp; (try with_reducible rfl)
            simp only [Act.put, List.setIfInBounds_toArray, List.set_cons_zero, List.set_cons_succ]
            have c0 := hA.cell (i := 0) (by omega)
            have c1 := hA.cell (i := 1) (by omega)
            have c2 := hA.cell (i := 2) (by omega)
            have c3 := hA.cell (i := 3) (by omega)
            have c4 := hA.cell (i := 4) (by omega)
            have t0 := hA.frozen 0
            have t1 := hA.frozen 1
            have t2 := hA.frozen 2
            have t3 := hA.frozen 3
            have t4 := hA.frozen 4
            have lA := hA.lt
            simp only [zScr] at c0 c1 c2 c3 c4
            refine wpAnyH_ready (rs := [17]) (by kernel_rfl) (by simp) ?_
            refine AllReadyH.cons (o := (⟨none, Op.store 30 (Operand.tmp 3) (Operand.tmp 27), 0, "ref.go:28", #[⟨16, Ground.data⟩, ⟨15, Ground.data⟩, ⟨10, Ground.chain⟩, ⟨0, Ground.phase⟩, ⟨1, Ground.phase⟩, ⟨2, Ground.phase⟩, ⟨3, Ground.phase⟩, ⟨4, Ground.phase⟩, ⟨5, Ground.phase⟩, ⟨6, Ground.phase⟩, ⟨7, Ground.phase⟩, ⟨8, Ground.phase⟩, ⟨9, Ground.phase⟩, ⟨10, Ground.phase⟩, ⟨11, Ground.phase⟩, ⟨12, Ground.phase⟩, ⟨13, Ground.phase⟩, ⟨14, Ground.phase⟩, ⟨15, Ground.phase⟩, ⟨16, Ground.phase⟩], none⟩ : Oper)) rfl (fun K hK => ?_) AllReadyH.nil
            go_simp
            refine hK.out _ _ (by repeat (first | exact hS | apply fr_new iA)) (fun hS => ?_)
            clear hK K c0 c1 c2 c3 c4 t0 t1 t2 t3 t4
            try simp only [Act.put, List.setIfInBounds_toArray, List.set_cons_zero, List.set_cons_succ]
            have hX := ((((hA.set 0 (.int .i64 (1 + (m0 : Int)))).set 1 (.int .i64 (1 + (m1 : Int)))).set 2 (.string (polZ m2))).set 3 (.slice (some ⟨bM, 0, none⟩) 3 3)).set 4 (.slice none 0 0)
            have hM := hM.fr (F := fun i => i = bA) (w' := ((((W3.setCell ⟨bA, 0, none⟩ (.int .i64 (1 + (m0 : Int)))).setCell ⟨bA, 1, none⟩ (.int .i64 (1 + (m1 : Int)))).setCell ⟨bA, 2, none⟩ (.string (polZ m2))).setCell ⟨bA, 3, none⟩ (.slice (some ⟨bM, 0, none⟩) 3 3)).setCell ⟨bA, 4, none⟩ (.slice none 0 0)) (by repeat (first | exact Fr.refl _ _ | apply fr_res)) (fun q => by omega)
            have nAM : ¬ bA = bM := by omega
            have HX := Lib.hid (And.intro hX (And.intro hM hS))
            clear hX hM hS hA hB
            refine wpAnyH_done (by kernel_rfl) ?_ _
            simp only [Exit.then]
            refine hK0 _ _ (Met.intro (hJ0 _ _ ?_))
            (repeat apply Exists.intro)
            refine ⟨?_, rfl⟩
            exact ⟨bA, bM, _, rfl, HX.out.1, ⟨rfl, rfl, rfl, rfl, rfl⟩, HX.out.2.1, HX.out.2.2, iA, iM, nAM⟩
          exact AllReadyH.nil
        exact AllReadyH.nil
      exact AllReadyH.nil
    refine AllReadyH.cons (o := (⟨some 3, Op.alloc 30, 0, "ref.go:28", #[], none⟩ : Oper)) rfl (fun K hK => ?_) ?_
    · go_simp
      have hA : Blk (W0.alloc (.cells #[.int .i64 0, .int .i64 0, .string ⟨#[]⟩, .slice none 0 0, .slice none 0 0] 30)) W0.heap.size 5 (zScr) := newZ _
      have gq : Fr NoF W0 (W0.alloc (.cells #[.int .i64 0, .int .i64 0, .string ⟨#[]⟩, .slice none 0 0, .slice none 0 0] 30)) := (Fr.refl NoF W0).alloc _
      have iA : w0.heap.size ≤ W0.heap.size := hS.size
      have hS1 := hS.trans gq (fun _ q => q.elim)
      clear gq
      generalize W0.alloc (.cells #[.int .i64 0, .int .i64 0, .string ⟨#[]⟩, .slice none 0 0, .slice none 0 0] 30) = W1 at *
      generalize W0.heap.size = bA at *
      refine hK.out _ _ hS1 (fun hS => ?_)
      clear hK K hS1
      try simp only [Act.put, List.setIfInBounds_toArray, List.set_cons_zero, List.set_cons_succ]
      refine wpAnyH_ready (rs := [8, 14]) (by kernel_rfl) (by simp) ?_
      refine AllReadyH.cons (o := (⟨some 20, Op.buildSlice 56 5 #[(0, Operand.const (Value.string { data := #[108, 114, 117] })), (1, Operand.const (Value.string { data := #[108, 114, 117, 107] })), (2, Operand.const (Value.string { data := #[116, 119, 111, 113] })), (3, Operand.const (Value.string { data := #[97, 114, 99] })), (4, Operand.const (Value.string { data := #[112, 114, 111] }))], 56, "ref.go:28", #[], none⟩ : Oper)) rfl (fun K hK => ?_) ?_
      · go_simp
        have hB : Blk (W1.alloc (.cells #[.string ⟨#[108, 114, 117]⟩, .string ⟨#[108, 114, 117, 107]⟩, .string ⟨#[116, 119, 111, 113]⟩, .string ⟨#[97, 114, 99]⟩, .string ⟨#[112, 114, 111]⟩] 9)) W1.heap.size 5 (fun i => .string (polZ i)) := new5 _
        have gq : Fr NoF W1 (W1.alloc (.cells #[.string ⟨#[108, 114, 117]⟩, .string ⟨#[108, 114, 117, 107]⟩, .string ⟨#[116, 119, 111, 113]⟩, .string ⟨#[97, 114, 99]⟩, .string ⟨#[112, 114, 111]⟩] 9)) := (Fr.refl NoF W1).alloc _
        have iB : w0.heap.size ≤ W1.heap.size := hS.size
        have lA := hA.lt
        have hA := hA.fr gq id
        have hS1 := hS.trans gq (fun _ q => q.elim)
        clear gq
        generalize W1.alloc (.cells #[.string ⟨#[108, 114, 117]⟩, .string ⟨#[108, 114, 117, 107]⟩, .string ⟨#[116, 119, 111, 113]⟩, .string ⟨#[97, 114, 99]⟩, .string ⟨#[112, 114, 111]⟩] 9) = W2 at *
        generalize W1.heap.size = bB at *
        refine hK.out _ _ hS1 (fun hS => ?_)
        clear hK K hS1
        try simp only [Act.put, List.setIfInBounds_toArray, List.set_cons_zero, List.set_cons_succ]
        refine wpAnyH_take (i := 12) (oi := (⟨some 24, Op.indexAddr 56 (Operand.tmp 20) (Operand.tmp 23), 0, "ref.go:28", #[⟨8, Ground.data⟩, ⟨11, Ground.data⟩], none⟩ : Oper)) (v := ?_) rfl (by kernel_rfl) (by kernel_rfl) (by kernel_rfl) (fun _ _ _ h => h) (Or.inl ⟨by rfl, ?_⟩) (by assumption) ?_
        rotate_left
        · intro w hSw; (try dsimp only at hSw); go_simp; (try with_reducible rfl)
        simp only [Act.put, List.setIfInBounds_toArray, List.set_cons_zero, List.set_cons_succ]
        refine wpAnyH_ready (rs := [13, 14]) (by kernel_rfl) (by simp) ?_
        refine AllReadyH.cons (o := (⟨some 25, Op.load 9 (Operand.tmp 24), 9, "ref.go:28", #[⟨12, Ground.data⟩], none⟩ : Oper)) rfl (fun K hK => ?_) ?_
        · have cL := hB.cell r2
          go_simp
          refine hK.out _ _ hS (fun hS => ?_)
          clear hK K cL
          try simp only [Act.put, List.setIfInBounds_toArray, List.set_cons_zero, List.set_cons_succ]
          refine wpAnyH_ready (rs := [14]) (by kernel_rfl) (by simp) ?_
          refine AllReadyH.cons (o := (⟨some 26, Op.makeSlice 28 (Operand.const (Value.int IntKind.i64 3)) (Operand.const (Value.int IntKind.i64 3)), 28, "ref.go:28", #[], none⟩ : Oper)) rfl (fun K hK => ?_) ?_
          · go_simp
            have hM : Blk (W2.alloc (.cells (madeCells #[.slice none 0 0] 3) 34)) W2.heap.size 3 (fun _ => .slice none 0 0) := new3 _
            have gq : Fr NoF W2 (W2.alloc (.cells (madeCells #[.slice none 0 0] 3) 34)) := (Fr.refl NoF W2).alloc _
            have iM : w0.heap.size ≤ W2.heap.size := hS.size
            have lB := hB.lt
            have hB := hB.fr gq id
            have lA := hA.lt
            have hA := hA.fr gq id
            have hS1 := hS.trans gq (fun _ q => q.elim)
            clear gq
            generalize W2.alloc (.cells (madeCells #[.slice none 0 0] 3) 34) = W3 at *
            generalize W2.heap.size = bM at *
            refine hK.out _ _ hS1 (fun hS => ?_)
            clear hK K hS1
            try simp only [Act.put, List.setIfInBounds_toArray, List.set_cons_zero, List.set_cons_succ]
            refine wpAnyH_take (i := 15) (oi := (⟨some 27, Op.build 30 #[(0, Operand.tmp 15), (1, Operand.tmp 19), (2, Operand.tmp 25), (3, Operand.tmp 26)], 30, "ref.go:28", #[⟨3, Ground.data⟩, ⟨7, Ground.data⟩, ⟨13, Ground.data⟩, ⟨14, Ground.data⟩], none⟩ : Oper)) (v := ?_) rfl (by kernel_rfl) (by kernel_rfl) (by kernel_rfl) (fun _ _ _ h => h) (Or.inl ⟨by rfl, ?_⟩) (by assumption) ?_
            rotate_left
            · intro w hSw; (try dsimp only at hSw); go_simp; (try with_reducible rfl)
            simp only [Act.put, List.setIfInBounds_toArray, List.set_cons_zero, List.set_cons_succ]
            have c0 := hA.cell (i := 0) (by omega)
            have c1 := hA.cell (i := 1) (by omega)
            have c2 := hA.cell (i := 2) (by omega)
            have c3 := hA.cell (i := 3) (by omega)
            have c4 := hA.cell (i := 4) (by omega)
            have t0 := hA.frozen 0
            have t1 := hA.frozen 1
            have t2 := hA.frozen 2
            have t3 := hA.frozen 3
            have t4 := hA.frozen 4
            have lA := hA.lt
            simp only [zScr] at c0 c1 c2 c3 c4
            refine wpAnyH_ready (rs := [17]) (by kernel_rfl) (by simp) ?_
            refine AllReadyH.cons (o := (⟨none, Op.store 30 (Operand.tmp 3) (Operand.tmp 27), 0, "ref.go:28", #[⟨16, Ground.data⟩, ⟨15, Ground.data⟩, ⟨10, Ground.chain⟩, ⟨0, Ground.phase⟩, ⟨1, Ground.phase⟩, ⟨2, Ground.phase⟩, ⟨3, Ground.phase⟩, ⟨4, Ground.phase⟩, ⟨5, Ground.phase⟩, ⟨6, Ground.phase⟩, ⟨7, Ground.phase⟩, ⟨8, Ground.phase⟩, ⟨9, Ground.phase⟩, ⟨10, Ground.phase⟩, ⟨11, Ground.phase⟩, ⟨12, Ground.phase⟩, ⟨13, Ground.phase⟩, ⟨14, Ground.phase⟩, ⟨15, Ground.phase⟩, ⟨16, Ground.phase⟩], none⟩ : Oper)) rfl (fun K hK => ?_) AllReadyH.nil
            go_simp
            refine hK.out _ _ (by repeat (first | exact hS | apply fr_new iA)) (fun hS => ?_)
            clear hK K c0 c1 c2 c3 c4 t0 t1 t2 t3 t4
            try simp only [Act.put, List.setIfInBounds_toArray, List.set_cons_zero, List.set_cons_succ]
            have hX := ((((hA.set 0 (.int .i64 (1 + (m0 : Int)))).set 1 (.int .i64 (1 + (m1 : Int)))).set 2 (.string (polZ m2))).set 3 (.slice (some ⟨bM, 0, none⟩) 3 3)).set 4 (.slice none 0 0)
            have hM := hM.fr (F := fun i => i = bA) (w' := ((((W3.setCell ⟨bA, 0, none⟩ (.int .i64 (1 + (m0 : Int)))).setCell ⟨bA, 1, none⟩ (.int .i64 (1 + (m1 : Int)))).setCell ⟨bA, 2, none⟩ (.string (polZ m2))).setCell ⟨bA, 3, none⟩ (.slice (some ⟨bM, 0, none⟩) 3 3)).setCell ⟨bA, 4, none⟩ (.slice none 0 0)) (by repeat (first | exact Fr.refl _ _ | apply fr_res)) (fun q => by omega)
            have nAM : ¬ bA = bM := by omega
            have HX := Lib.hid (And.intro hX (And.intro hM hS))
            clear hX hM hS hA hB
            refine wpAnyH_done (by kernel_rfl) ?_ _
            simp only [Exit.then]
            refine hK0 _ _ (Met.intro (hJ0 _ _ ?_))
            (repeat apply Exists.intro)
            refine ⟨?_, rfl⟩
            exact ⟨bA, bM, _, rfl, HX.out.1, ⟨rfl, rfl, rfl, rfl, rfl⟩, HX.out.2.1, HX.out.2.2, iA, iM, nAM⟩
          exact AllReadyH.nil
        refine AllReadyH.cons (o := (⟨some 26, Op.makeSlice 28 (Operand.const (Value.int IntKind.i64 3)) (Operand.const (Value.int IntKind.i64 3)), 28, "ref.go:28", #[], none⟩ : Oper)) rfl (fun K hK => ?_) ?_
        · go_simp
          have hM : Blk (W2.alloc (.cells (madeCells #[.slice none 0 0] 3) 34)) W2.heap.size 3 (fun _ => .slice none 0 0) := new3 _
          have gq : Fr NoF W2 (W2.alloc (.cells (madeCells #[.slice none 0 0] 3) 34)) := (Fr.refl NoF W2).alloc _
          have iM : w0.heap.size ≤ W2.heap.size := hS.size
          have lB := hB.lt
          have hB := hB.fr gq id
          have lA := hA.lt
          have hA := hA.fr gq id
          have hS1 := hS.trans gq (fun _ q => q.elim)
          clear gq
          generalize W2.alloc (.cells (madeCells #[.slice none 0 0] 3) 34) = W3 at *
          generalize W2.heap.size = bM at *
          refine hK.out _ _ hS1 (fun hS => ?_)
          clear hK K hS1
          try simp only [Act.put, List.setIfInBounds_toArray, List.set_cons_zero, List.set_cons_succ]
          refine wpAnyH_ready (rs := [13]) (by kernel_rfl) (by simp) ?_
          refine AllReadyH.cons (o := (⟨some 25, Op.load 9 (Operand.tmp 24), 9, "ref.go:28", #[⟨12, Ground.data⟩], none⟩ : Oper)) rfl (fun K hK => ?_) ?_
          · have cL := hB.cell r2
            go_simp
            refine hK.out _ _ hS (fun hS => ?_)
            clear hK K cL
            try simp only [Act.put, List.setIfInBounds_toArray, List.set_cons_zero, List.set_cons_succ]
            refine wpAnyH_take (i := 15) (oi := (⟨some 27, Op.build 30 #[(0, Operand.tmp 15), (1, Operand.tmp 19), (2, Operand.tmp 25), (3, Operand.tmp 26)], 30, "ref.go:28", #[⟨3, Ground.data⟩, ⟨7, Ground.data⟩, ⟨13, Ground.data⟩, ⟨14, Ground.data⟩], none⟩ : Oper)) (v := ?_) rfl (by kernel_rfl) (by kernel_rfl) (by kernel_rfl) (fun _ _ _ h => h) (Or.inl ⟨by rfl, ?_⟩) (by assumption) ?_
            rotate_left
            · intro w hSw; (try dsimp only at hSw); go_simp; (try with_reducible rfl)
            simp only [Act.put, List.setIfInBounds_toArray, List.set_cons_zero, List.set_cons_succ]
            have c0 := hA.cell (i := 0) (by omega)
            have c1 := hA.cell (i := 1) (by omega)
            have c2 := hA.cell (i := 2) (by omega)
            have c3 := hA.cell (i := 3) (by omega)
            have c4 := hA.cell (i := 4) (by omega)
            have t0 := hA.frozen 0
            have t1 := hA.frozen 1
            have t2 := hA.frozen 2
            have t3 := hA.frozen 3
            have t4 := hA.frozen 4
            have lA := hA.lt
            simp only [zScr] at c0 c1 c2 c3 c4
            refine wpAnyH_ready (rs := [17]) (by kernel_rfl) (by simp) ?_
            refine AllReadyH.cons (o := (⟨none, Op.store 30 (Operand.tmp 3) (Operand.tmp 27), 0, "ref.go:28", #[⟨16, Ground.data⟩, ⟨15, Ground.data⟩, ⟨10, Ground.chain⟩, ⟨0, Ground.phase⟩, ⟨1, Ground.phase⟩, ⟨2, Ground.phase⟩, ⟨3, Ground.phase⟩, ⟨4, Ground.phase⟩, ⟨5, Ground.phase⟩, ⟨6, Ground.phase⟩, ⟨7, Ground.phase⟩, ⟨8, Ground.phase⟩, ⟨9, Ground.phase⟩, ⟨10, Ground.phase⟩, ⟨11, Ground.phase⟩, ⟨12, Ground.phase⟩, ⟨13, Ground.phase⟩, ⟨14, Ground.phase⟩, ⟨15, Ground.phase⟩, ⟨16, Ground.phase⟩], none⟩ : Oper)) rfl (fun K hK => ?_) AllReadyH.nil
            go_simp
            refine hK.out _ _ (by repeat (first | exact hS | apply fr_new iA)) (fun hS => ?_)
            clear hK K c0 c1 c2 c3 c4 t0 t1 t2 t3 t4
            try simp only [Act.put, List.setIfInBounds_toArray, List.set_cons_zero, List.set_cons_succ]
            have hX := ((((hA.set 0 (.int .i64 (1 + (m0 : Int)))).set 1 (.int .i64 (1 + (m1 : Int)))).set 2 (.string (polZ m2))).set 3 (.slice (some ⟨bM, 0, none⟩) 3 3)).set 4 (.slice none 0 0)
            have hM := hM.fr (F := fun i => i = bA) (w' := ((((W3.setCell ⟨bA, 0, none⟩ (.int .i64 (1 + (m0 : Int)))).setCell ⟨bA, 1, none⟩ (.int .i64 (1 + (m1 : Int)))).setCell ⟨bA, 2, none⟩ (.string (polZ m2))).setCell ⟨bA, 3, none⟩ (.slice (some ⟨bM, 0, none⟩) 3 3)).setCell ⟨bA, 4, none⟩ (.slice none 0 0)) (by repeat (first | exact Fr.refl _ _ | apply fr_res)) (fun q => by omega)
            have nAM : ¬ bA = bM := by omega
            have HX := Lib.hid (And.intro hX (And.intro hM hS))
            clear hX hM hS hA hB
            refine wpAnyH_done (by kernel_rfl) ?_ _
            simp only [Exit.then]
            refine hK0 _ _ (Met.intro (hJ0 _ _ ?_))
            (repeat apply Exists.intro)
            refine ⟨?_, rfl⟩
            exact ⟨bA, bM, _, rfl, HX.out.1, ⟨rfl, rfl, rfl, rfl, rfl⟩, HX.out.2.1, HX.out.2.2, iA, iM, nAM⟩
          exact AllReadyH.nil
        exact AllReadyH.nil
      refine AllReadyH.cons (o := (⟨some 26, Op.makeSlice 28 (Operand.const (Value.int IntKind.i64 3)) (Operand.const (Value.int IntKind.i64 3)), 28, "ref.go:28", #[], none⟩ : Oper)) rfl (fun K hK => ?_) ?_
      · go_simp
        have hM : Blk (W1.alloc (.cells (madeCells #[.slice none 0 0] 3) 34)) W1.heap.size 3 (fun _ => .slice none 0 0) := new3 _
        have gq : Fr NoF W1 (W1.alloc (.cells (madeCells #[.slice none 0 0] 3) 34)) := (Fr.refl NoF W1).alloc _
        have iM : w0.heap.size ≤ W1.heap.size := hS.size
        have lA := hA.lt
        have hA := hA.fr gq id
        have hS1 := hS.trans gq (fun _ q => q.elim)
        clear gq
        generalize W1.alloc (.cells (madeCells #[.slice none 0 0] 3) 34) = W2 at *
        generalize W1.heap.size = bM at *
        refine hK.out _ _ hS1 (fun hS => ?_)
        clear hK K hS1
        try simp only [Act.put, List.setIfInBounds_toArray, List.set_cons_zero, List.set_cons_succ]
        refine wpAnyH_ready (rs := [8]) (by kernel_rfl) (by simp) ?_
        refine AllReadyH.cons (o := (⟨some 20, Op.buildSlice 56 5 #[(0, Operand.const (Value.string { data := #[108, 114, 117] })), (1, Operand.const (Value.string { data := #[108, 114, 117, 107] })), (2, Operand.const (Value.string { data := #[116, 119, 111, 113] })), (3, Operand.const (Value.string { data := #[97, 114, 99] })), (4, Operand.const (Value.string { data := #[112, 114, 111] }))], 56, "ref.go:28", #[], none⟩ : Oper)) rfl (fun K hK => ?_) ?_
        · go_simp
          have hB : Blk (W2.alloc (.cells #[.string ⟨#[108, 114, 117]⟩, .string ⟨#[108, 114, 117, 107]⟩, .string ⟨#[116, 119, 111, 113]⟩, .string ⟨#[97, 114, 99]⟩, .string ⟨#[112, 114, 111]⟩] 9)) W2.heap.size 5 (fun i => .string (polZ i)) := new5 _
          have gq : Fr NoF W2 (W2.alloc (.cells #[.string ⟨#[108, 114, 117]⟩, .string ⟨#[108, 114, 117, 107]⟩, .string ⟨#[116, 119, 111, 113]⟩, .string ⟨#[97, 114, 99]⟩, .string ⟨#[112, 114, 111]⟩] 9)) := (Fr.refl NoF W2).alloc _
          have iB : w0.heap.size ≤ W2.heap.size := hS.size
          have lM := hM.lt
          have hM := hM.fr gq id
          have lA := hA.lt
          have hA := hA.fr gq id
          have hS1 := hS.trans gq (fun _ q => q.elim)
          clear gq
          generalize W2.alloc (.cells #[.string ⟨#[108, 114, 117]⟩, .string ⟨#[108, 114, 117, 107]⟩, .string ⟨#[116, 119, 111, 113]⟩, .string ⟨#[97, 114, 99]⟩, .string ⟨#[112, 114, 111]⟩] 9) = W3 at *
          generalize W2.heap.size = bB at *
          refine hK.out _ _ hS1 (fun hS => ?_)
          clear hK K hS1
          try simp only [Act.put, List.setIfInBounds_toArray, List.set_cons_zero, List.set_cons_succ]
          refine wpAnyH_take (i := 12) (oi := (⟨some 24, Op.indexAddr 56 (Operand.tmp 20) (Operand.tmp 23), 0, "ref.go:28", #[⟨8, Ground.data⟩, ⟨11, Ground.data⟩], none⟩ : Oper)) (v := ?_) rfl (by kernel_rfl) (by kernel_rfl) (by kernel_rfl) (fun _ _ _ h => h) (Or.inl ⟨by rfl, ?_⟩) (by assumption) ?_
          rotate_left
          · intro w hSw; (try dsimp only at hSw); go_simp; (try with_reducible rfl)
          simp only [Act.put, List.setIfInBounds_toArray, List.set_cons_zero, List.set_cons_succ]
          refine wpAnyH_ready (rs := [13]) (by kernel_rfl) (by simp) ?_
          refine AllReadyH.cons (o := (⟨some 25, Op.load 9 (Operand.tmp 24), 9, "ref.go:28", #[⟨12, Ground.data⟩], none⟩ : Oper)) rfl (fun K hK => ?_) ?_
          · have cL := hB.cell r2
            go_simp
            refine hK.out _ _ hS (fun hS => ?_)
            clear hK K cL
            try simp only [Act.put, List.setIfInBounds_toArray, List.set_cons_zero, List.set_cons_succ]
            refine wpAnyH_take (i := 15) (oi := (⟨some 27, Op.build 30 #[(0, Operand.tmp 15), (1, Operand.tmp 19), (2, Operand.tmp 25), (3, Operand.tmp 26)], 30, "ref.go:28", #[⟨3, Ground.data⟩, ⟨7, Ground.data⟩, ⟨13, Ground.data⟩, ⟨14, Ground.data⟩], none⟩ : Oper)) (v := ?_) rfl (by kernel_rfl) (by kernel_rfl) (by kernel_rfl) (fun _ _ _ h => h) (Or.inl ⟨by rfl, ?_⟩) (by assumption) ?_
            rotate_left
            · intro w hSw; (try dsimp only at hSw); go_simp; (try with_reducible rfl)
            simp only [Act.put, List.setIfInBounds_toArray, List.set_cons_zero, List.set_cons_succ]
            have c0 := hA.cell (i := 0) (by omega)
            have c1 := hA.cell (i := 1) (by omega)
            have c2 := hA.cell (i := 2) (by omega)
            have c3 := hA.cell (i := 3) (by omega)
            have c4 := hA.cell (i := 4) (by omega)
            have t0 := hA.frozen 0
            have t1 := hA.frozen 1
            have t2 := hA.frozen 2
            have t3 := hA.frozen 3
            have t4 := hA.frozen 4
            have lA := hA.lt
            simp only [zScr] at c0 c1 c2 c3 c4
            refine wpAnyH_ready (rs := [17]) (by kernel_rfl) (by simp) ?_
            refine AllReadyH.cons (o := (⟨none, Op.store 30 (Operand.tmp 3) (Operand.tmp 27), 0, "ref.go:28", #[⟨16, Ground.data⟩, ⟨15, Ground.data⟩, ⟨10, Ground.chain⟩, ⟨0, Ground.phase⟩, ⟨1, Ground.phase⟩, ⟨2, Ground.phase⟩, ⟨3, Ground.phase⟩, ⟨4, Ground.phase⟩, ⟨5, Ground.phase⟩, ⟨6, Ground.phase⟩, ⟨7, Ground.phase⟩, ⟨8, Ground.phase⟩, ⟨9, Ground.phase⟩, ⟨10, Ground.phase⟩, ⟨11, Ground.phase⟩, ⟨12, Ground.phase⟩, ⟨13, Ground.phase⟩, ⟨14, Ground.phase⟩, ⟨15, Ground.phase⟩, ⟨16, Ground.phase⟩], none⟩ : Oper)) rfl (fun K hK => ?_) AllReadyH.nil
            go_simp
            refine hK.out _ _ (by repeat (first | exact hS | apply fr_new iA)) (fun hS => ?_)
            clear hK K c0 c1 c2 c3 c4 t0 t1 t2 t3 t4
            try simp only [Act.put, List.setIfInBounds_toArray, List.set_cons_zero, List.set_cons_succ]
            have hX := ((((hA.set 0 (.int .i64 (1 + (m0 : Int)))).set 1 (.int .i64 (1 + (m1 : Int)))).set 2 (.string (polZ m2))).set 3 (.slice (some ⟨bM, 0, none⟩) 3 3)).set 4 (.slice none 0 0)
            have hM := hM.fr (F := fun i => i = bA) (w' := ((((W3.setCell ⟨bA, 0, none⟩ (.int .i64 (1 + (m0 : Int)))).setCell ⟨bA, 1, none⟩ (.int .i64 (1 + (m1 : Int)))).setCell ⟨bA, 2, none⟩ (.string (polZ m2))).setCell ⟨bA, 3, none⟩ (.slice (some ⟨bM, 0, none⟩) 3 3)).setCell ⟨bA, 4, none⟩ (.slice none 0 0)) (by repeat (first | exact Fr.refl _ _ | apply fr_res)) (fun q => by omega)
            have nAM : ¬ bA = bM := by omega
            have HX := Lib.hid (And.intro hX (And.intro hM hS))
            clear hX hM hS hA hB
            refine wpAnyH_done (by kernel_rfl) ?_ _
            simp only [Exit.then]
            refine hK0 _ _ (Met.intro (hJ0 _ _ ?_))
            (repeat apply Exists.intro)
            refine ⟨?_, rfl⟩
            exact ⟨bA, bM, _, rfl, HX.out.1, ⟨rfl, rfl, rfl, rfl, rfl⟩, HX.out.2.1, HX.out.2.2, iA, iM, nAM⟩
          exact AllReadyH.nil
        exact AllReadyH.nil
      exact AllReadyH.nil
    exact AllReadyH.nil
  case rest =>
    obtain ⟨wA, hwA⟩ : ∃ x, x = wc := ⟨_, rfl⟩
    subst hwA
    obtain ⟨wB, hwB⟩ : ∃ x, x = w0 := ⟨_, rfl⟩
    subst hwB
    have H := Lib.hid (H.out.keep F0.out)
    obtain ⟨bA, bM, vA, rfl, hA, ⟨a0, a1, a2, a3, a4⟩, hM, hf0, iA, iM, nAM⟩ := hcut
    have hb2 : ∀ x ∈ l.drop 4, x < 256 := fun x hx => HB.out x (List.mem_of_mem_drop hx)
    have HL0 := Lib.hid (L3T.new (ty := 40) hM wA.heap.size)
    have HF := Lib.hid hf0
    have HAA := Lib.hid hA
    have HVA := Lib.hid (And.intro a0 (And.intro a1 (And.intro a2 (And.intro a3 a4))))
    have lbA := hA.lt
    have lbM := hM.lt
    obtain ⟨n, hn⟩ : ∃ n, n = min ((l.drop 4).length / 3) 60 := ⟨_, rfl⟩
    have hN : Hid (n = min ((l.length - 4) / 3) 60) := Lib.hid (by rw [hn, List.length_drop])
    have HN := Lib.hid hn
    clear hn hA hM hf0 a0 a1 a2 a3 a4 mk1 lw HA0 HA1 HA2 e0 e1 e2 w1 r2i x0 x1 x2
    go_wp2_with fail
    go_loopw [4, 5] (fun s4 s5 wr => ∃ j : Nat, j ≤ n ∧ s4 = .int .i64 j ∧ s5 = .int .i64 ((4 + 3 * j : Nat) : Int) ∧ (∃ vs, L3T 40 wr bM wA.heap.size vs (opsK (l.drop 4) j)) ∧ Blk wr bA 5 vA ∧ Fr NoF wB wr ∧ wA.heap.size ≤ wr.heap.size) (fun s4 _ _ => n - (intOf s4).toNat)
    case atStart => exact ⟨0, Nat.zero_le _, rfl, rfl, ⟨_, HL0.out⟩, HAA.out, HF.out, Nat.le_refl _⟩
    case round =>
      obtain ⟨j, hj, rfl, rfl, ⟨vs, hL⟩, hAr, hf, hszA⟩ := hrel
      by_cases hlt : j < n
      · have ht2 : 4 + 3 * j + 2 < l.length := by have := hN.out; omega
        have hj60 : (j : Int) < 60 := by have := hN.out; omega
        have hj60' : j < 60 := by omega
        obtain ⟨bb, o, c', e1, _, _, h3, h4⟩ := H.out.at (i := 4 + 3 * j) (by omega)
        simp only [Value.slice.injEq] at e1
        obtain ⟨rfl, _, rfl⟩ := e1
        obtain ⟨bb1, o1, c1, e1, _, _, _, h5⟩ := H.out.at (i := 4 + 3 * j + 1) (by omega)
        simp only [Value.slice.injEq, Option.some.injEq, Addr.mk.injEq] at e1
        obtain ⟨⟨rfl, rfl, _⟩, _, rfl⟩ := e1
        obtain ⟨bb1, o1, c1, e1, _, _, _, h6⟩ := H.out.at (i := 4 + 3 * j + 2) (by omega)
        simp only [Value.slice.injEq, Option.some.injEq, Addr.mk.injEq] at e1
        obtain ⟨⟨rfl, rfl, _⟩, _, rfl⟩ := e1
        rw [← hf.cell (p := ⟨bb, o + (4 + 3 * j), none⟩) h3 id] at h4
        rw [← hf.cell (p := ⟨bb, o + (4 + 3 * j + 1), none⟩) h3 id] at h5
        rw [← hf.cell (p := ⟨bb, o + (4 + 3 * j + 2), none⟩) h3 id] at h6
        have bx := HB.out _ (List.getElem_mem (show 4 + 3 * j < l.length by omega))
        have by' := HB.out _ (List.getElem_mem (show 4 + 3 * j + 1 < l.length by omega))
        have bz := HB.out _ (List.getElem_mem (show 4 + 3 * j + 2 < l.length by omega))
        have EW : Hid (whoK (l.drop 4) j = l[4 + 3 * j] / 16 % 3 ∧ opK (l.drop 4) j = ⟨kindZ (l[4 + 3 * j] % 16), idOf (kindZ (l[4 + 3 * j] % 16)) l[4 + 3 * j + 1], vOf (kindZ (l[4 + 3 * j] % 16)) l[4 + 3 * j + 2]⟩) := Lib.hid (by
          have q : ∀ i, (h : 4 + 3 * j + i < l.length) → (l.drop 4).getD (3 * j + i) 0 = l[4 + 3 * j + i] := fun i h => by
            rw [List.getD_eq_getElem?_getD, List.getElem?_drop, ← Nat.add_assoc, List.getElem?_eq_getElem h]; rfl
          unfold whoK opK
          rw [q 1 (by omega), q 2 (by omega), show (l.drop 4).getD (3 * j) 0 = l[4 + 3 * j] from q 0 (by omega)]
          exact ⟨rfl, rfl⟩)
        generalize l[4 + 3 * j] = x at *
        generalize l[4 + 3 * j + 1] = y at *
        generalize l[4 + 3 * j + 2] = z at *
        obtain ⟨t, ht⟩ : ∃ t, t = 4 + 3 * j := ⟨_, rfl⟩
        rw [← ht] at h4 h5 h6 ht2
        rw [← ht]
        have tI : (t : Int) + 2 < l.length := by omega
        have t4 : t < 400 := by omega
        have w31 : IntKind.i64.wrap ((t : Int) + 1) = (t : Int) + 1 := IntWalk.i64_in _ (by omega)
        have w32 : IntKind.i64.wrap ((t : Int) + 2) = (t : Int) + 2 := IntWalk.i64_in _ (by omega)
        have w33 : IntKind.i64.wrap ((t : Int) + 3) = (t : Int) + 3 := IntWalk.i64_in _ (by omega)
        have HTJ := Lib.hid ht
        have HW33 := Lib.hid w33
        clear w33
        clear ht
        have hsz := hf.size
        have HLS := Lib.hid hL
        have HFR := Lib.hid hf
        have HAR := Lib.hid hAr
        clear hL hf hAr
        go_wp2_with fail
        go_region
        go_upto_region 7 with fail
        have hkx : x % 16 < 16 := Nat.mod_lt _ (by decide)
        have em : Int.tmod (x : Int) 16 = ((x % 16 : Nat) : Int) := by rw [Int.tmod_eq_emod_of_nonneg (by omega)]; omega
        have eq16 : Int.tdiv (x : Int) 16 = ((x / 16 : Nat) : Int) := by rw [Int.tdiv_eq_ediv_of_nonneg (by omega)]; omega
        have eq3 : Int.tmod ((x / 16 : Nat) : Int) 3 = ((x / 16 % 3 : Nat) : Int) := by rw [Int.tmod_eq_emod_of_nonneg (by omega)]; omega
        have eq10 : Int.tmod (y : Int) 10 = ((y % 10 : Nat) : Int) := by rw [Int.tmod_eq_emod_of_nonneg (by omega)]; omega
        have hx16 : x / 16 < 16 := by omega
        have wx16 : wrap64 ((x / 16 : Nat) : Int) = ((x / 16 : Nat) : Int) := by unfold wrap64; omega
        have hc : x / 16 % 3 < 3 := Nat.mod_lt _ (by decide)
        have f0 : Fr NoF wr wr.drew := (Fr.refl NoF wr).drew
        have HLS := Lib.hid (HLS.out.fr0 f0)
        have HFR := Lib.hid (HFR.out.trans f0 (fun _ q => q.elim))
        have HAR := Lib.hid (HAR.out.fr f0 id)
        have hszD : wA.heap.size ≤ wr.drew.heap.size := hszA
        have hyt : y % 10 < 10 := Nat.mod_lt _ (by decide)
        have EW2 : Hid (idOf (kindZ (x % 16)) y = if idZ (kindZ (x % 16)) = true then 1 + y % 10 else 0) := Lib.hid rfl
        clear h3 h4 h5 h6 f0 w31 w32
        have HX16 := Lib.hid wx16
        clear wx16
        generalize wr.drew = wD at *
        generalize x / 16 % 3 = ci at *
        generalize x / 16 = x16 at *
        generalize x % 16 = kx at *
        generalize y % 10 = yt at *
        go_cut [9] from 28 to 97 (fun s9 wx => ∃ g, s9 = .pointer (some ⟨g, 0, none⟩) ∧ Blk wx g 3 (fun i => match i with | 0 => .int .i64 (kindZ kx : Nat) | 1 => .int .u32 0 | _ => .int .u64 0) ∧ wD.heap.size ≤ g ∧ Fr NoF wD wx)
        case first =>
          clear HLS HFR HAR EW EW2 eq16 eq3 eq10
          have h16 : kx = 0 ∨ kx = 1 ∨ kx = 2 ∨ kx = 3 ∨ kx = 4 ∨ kx = 5 ∨ kx = 6 ∨ kx = 7 ∨ kx = 8 ∨ kx = 9 ∨ kx = 10 ∨ kx = 11 ∨ kx = 12 ∨ kx = 13 ∨ kx = 14 ∨ kx = 15 := by omega
          rcases h16 with rfl | rfl | rfl | rfl | rfl | rfl | rfl | rfl | rfl | rfl | rfl | rfl | rfl | rfl | rfl | rfl
          all_goals
            go_wp2_with fail
            all_goals go_meet
            exact ⟨_, rfl, Blk.new _ _ _ 3 _ _ (by rw [World.size_alloc]) rfl (fun i hi => by
              match i, hi with
              | 0, _ | 1, _ | 2, _ => rfl), Nat.le_succ _, ((Fr.refl NoF wD).alloc _).alloc _⟩
        case rest =>
          obtain ⟨g, rfl, hG, hDg, hDx⟩ := hcut
          have hk8 := kindZ_lt kx
          have HG := Lib.hid hG
          have g0 := hG.cell (i := 0) (by omega)
          have g1 := hG.cell (i := 1) (by omega)
          have g2 := hG.cell (i := 2) (by omega)
          have z0 := hG.frozen 0
          have z1 := hG.frozen 1
          have z2 := hG.frozen 2
          have lg := hG.lt
          have HDX := Lib.hid hDx
          clear hG hDx em
          simp only at g0 g1 g2
          generalize kindZ kx = k at *
          have wyt : IntKind.i64.wrap (1 + (yt : Int)) = 1 + (yt : Int) := IntWalk.i64_in _ (by omega)
          have wyu : IntKind.u32.wrap (1 + (yt : Int)) = 1 + (yt : Int) := by simp [IntKind.wrap, IntKind.bits, IntKind.signed]; omega
          have EZ2 : Hid (vOf k z = if vZ k = true then z else 0) := Lib.hid rfl
          generalize idOf k y = iv at *
          generalize vOf k z = zv at *
          have HIV := EW2
          have HZV := EZ2
          have hcase : k = 0 ∨ k = 6 ∨ k = 4 ∨ (¬ k = 0 ∧ ¬ k = 6 ∧ ¬ k = 4) := by omega
          rcases hcase with q | q | q | q
          · have b0 : ((k : Int) != 0) = false := by rw [Bool.eq_iff_iff]; simp; omega
            have b6 : ((k : Int) != 6) = true := by rw [Bool.eq_iff_iff]; simp; omega
            have b4 : ((k : Int) == 4) = false := by rw [Bool.eq_iff_iff]; simp; omega
            have HQ := Lib.hid q
            clear q
            go_upto_region 13 with fail
            (try rw [HX16.out, eq3])
            have hU : ∃ vE, Blk (wc) g 3 vE ∧ vE 0 = .int .i64 (k : Nat) ∧ vE 1 = .int .u32 (iv : Nat) ∧ vE 2 = .int .u64 (zv : Nat) := ⟨_, HG.out, rfl, by rw [HIV.out, if_neg (by have q := HQ.out; simp [idZ, q])]; rfl, by rw [HZV.out, if_neg (by have q := HQ.out; simp [vZ]; omega)]; rfl⟩
            have hD : Fr NoF wD (wc) := by repeat (first | exact HDX.out | apply fr_new hDg)
            rename World => wE
            obtain ⟨vE, hE, e0, e1, e2⟩ := hU
            have fd : Fr NoF wE wE.drew := (Fr.refl NoF wE).drew
            have hD2 := hD.trans fd (fun _ q => q.elim)
            have HLS2 := Lib.hid (HLS.out.fr0 hD2)
            have HAR2 := Lib.hid (HAR.out.fr hD2 id)
            have HFR2 := Lib.hid (HFR.out.trans hD2 (fun _ q => q.elim))
            have HSZ := Lib.hid (Nat.le_trans hszD hD2.size)
            have hE2 := hE.fr fd id
            have hng : ∀ i, (vs ci).ownBlock = some i → i < wD.heap.size := fun i q => (World.ownsRow.lt (HLS.out.own ci hc) i q).2
            clear HLS HAR HFR hE fd hD2 hD HG HDX
            refine region_tail (fun w' => w'.cell? ⟨bA, 3, none⟩ = some (.slice (some ⟨bM, 0, none⟩) 3 3) ∧ w'.cell? ⟨bM, ci, none⟩ = some (vs ci) ∧ w'.cell? ⟨g, 0, none⟩ = some (.int .i64 (k : Nat)) ∧ w'.cell? ⟨g, 1, none⟩ = some (.int .u32 (iv : Nat)) ∧ w'.cell? ⟨g, 2, none⟩ = some (.int .u64 (zv : Nat))) 12 (by kernel_rfl) rfl rfl (by kernel_rfl) ?_
            simp only [List.take_succ_cons, List.take_zero]
            generalize wE.drew = wF at *
            have HLN : Hid ((opsK (l.drop 4) j ci).length ≤ 60) := Lib.hid (by have := opsK_len (l.drop 4) j ci; omega)
            have hci : (ci : Int) < 3 := by omega
            have c0 := HAR2.out.cell (i := 3) (by omega)
            rw [HVA.out.2.2.2.1] at c0
            have c1 := HLS2.out.blk.cell hc
            have d0 := hE2.cell (i := 0) (by omega)
            rw [e0] at d0
            have d1 := hE2.cell (i := 1) (by omega)
            rw [e1] at d1
            have d2 := hE2.cell (i := 2) (by omega)
            rw [e2] at d2
            have KF : Hid (∀ W W', Fr NoF wF W → Fr (fun b => (vs ci).ownBlock = some b) W W' → (fun w' => w'.cell? ⟨bA, 3, none⟩ = some (.slice (some ⟨bM, 0, none⟩) 3 3) ∧ w'.cell? ⟨bM, ci, none⟩ = some (vs ci) ∧ w'.cell? ⟨g, 0, none⟩ = some (.int .i64 (k : Nat)) ∧ w'.cell? ⟨g, 1, none⟩ = some (.int .u32 (iv : Nat)) ∧ w'.cell? ⟨g, 2, none⟩ = some (.int .u64 (zv : Nat))) W') := Lib.hid fun W W' f f2 => by
              have hM7 := (HLS2.out.fr0 f).blk.fr f2 (fun q => HLS2.out.nb ci hc _ q rfl)
              have hA7 := (HAR2.out.fr f id).fr f2 (fun q => by have := ownBlock_own (HLS2.out.own ci hc) _ q; omega)
              have hE7 := (hE2.fr f id).fr f2 (fun q => by have := hng _ q; omega)
              exact ⟨by rw [← HVA.out.2.2.2.1]; exact hA7.cell (i := 3) (by omega), hM7.cell hc, by rw [← e0]; exact hE7.cell (i := 0) (by omega), by rw [← e1]; exact hE7.cell (i := 1) (by omega), by rw [← e2]; exact hE7.cell (i := 2) (by omega)⟩
            have KS : Hid (∀ W, Fr NoF wF W → (fun w' => w'.cell? ⟨bA, 3, none⟩ = some (.slice (some ⟨bM, 0, none⟩) 3 3) ∧ w'.cell? ⟨bM, ci, none⟩ = some (vs ci) ∧ w'.cell? ⟨g, 0, none⟩ = some (.int .i64 (k : Nat)) ∧ w'.cell? ⟨g, 1, none⟩ = some (.int .u32 (iv : Nat)) ∧ w'.cell? ⟨g, 2, none⟩ = some (.int .u64 (zv : Nat))) W) := Lib.hid fun W f => KF.out W W f (Fr.refl _ _)
            have hS : (fun w' => w'.cell? ⟨bA, 3, none⟩ = some (.slice (some ⟨bM, 0, none⟩) 3 3) ∧ w'.cell? ⟨bM, ci, none⟩ = some (vs ci) ∧ w'.cell? ⟨g, 0, none⟩ = some (.int .i64 (k : Nat)) ∧ w'.cell? ⟨g, 1, none⟩ = some (.int .u32 (iv : Nat)) ∧ w'.cell? ⟨g, 2, none⟩ = some (.int .u64 (zv : Nat))) wF := ⟨c0, c1, d0, d1, d2⟩
            refine wpAnyH_take (i := 0) (v := ?_) rfl (by decide +kernel) (by decide +kernel) (by decide +kernel) (fun _ _ _ h => h) (Or.inl ⟨by rfl, ?_⟩) hS ?_
            rotate_left
            · intro wS hSw; (try dsimp only at hSw); go_simp
              try with_reducible rfl
            try simp only [Act.put, List.setIfInBounds_toArray, List.set_cons_zero, List.set_cons_succ]
            refine wpAnyH_take (i := 1) (v := ?_) rfl (by decide +kernel) (by decide +kernel) (by decide +kernel) (fun _ _ _ h => h) (Or.inl ⟨by rfl, ?_⟩) hS ?_
            rotate_left
            · intro wS hSw; (try dsimp only at hSw); go_simp
              try with_reducible rfl
            try simp only [Act.put, List.setIfInBounds_toArray, List.set_cons_zero, List.set_cons_succ]
            refine wpAnyH_take (i := 2) (v := ?_) rfl (by decide +kernel) (by decide +kernel) (by decide +kernel) (fun _ _ _ h => h) (Or.inl ⟨by rfl, ?_⟩) hS ?_
            rotate_left
            · intro wS hSw; (try dsimp only at hSw); go_simp
              try with_reducible rfl
            try simp only [Act.put, List.setIfInBounds_toArray, List.set_cons_zero, List.set_cons_succ]
            refine wpAnyH_take (i := 3) (v := ?_) rfl (by decide +kernel) (by decide +kernel) (by decide +kernel) (fun _ _ _ h => h) (Or.inl ⟨by rfl, ?_⟩) hS ?_
            rotate_left
            · intro wS hSw; (try dsimp only at hSw); go_simp
              try with_reducible rfl
            try simp only [Act.put, List.setIfInBounds_toArray, List.set_cons_zero, List.set_cons_succ]
            refine wpAnyH_take (i := 4) (v := ?_) rfl (by decide +kernel) (by decide +kernel) (by decide +kernel) (fun _ _ _ h => h) (Or.inl ⟨by rfl, ?_⟩) hS ?_
            rotate_left
            · intro wS hSw; (try dsimp only at hSw); go_simp
              try with_reducible rfl
            try simp only [Act.put, List.setIfInBounds_toArray, List.set_cons_zero, List.set_cons_succ]
            refine wpAnyH_take (i := 5) (v := ?_) rfl (by decide +kernel) (by decide +kernel) (by decide +kernel) (fun _ _ _ h => h) (Or.inl ⟨by rfl, ?_⟩) hS ?_
            rotate_left
            · intro wS hSw; (try dsimp only at hSw); go_simp
              try with_reducible rfl
            try simp only [Act.put, List.setIfInBounds_toArray, List.set_cons_zero, List.set_cons_succ]
            refine wpAnyH_take (i := 6) (v := ?_) rfl (by decide +kernel) (by decide +kernel) (by decide +kernel) (fun _ _ _ h => h) (Or.inl ⟨by rfl, ?_⟩) hS ?_
            rotate_left
            · intro wS hSw; (try dsimp only at hSw); go_simp
              try with_reducible rfl
            try simp only [Act.put, List.setIfInBounds_toArray, List.set_cons_zero, List.set_cons_succ]
            refine wpAnyH_take (i := 7) (v := ?_) rfl (by decide +kernel) (by decide +kernel) (by decide +kernel) (fun _ _ _ h => h) (Or.inl ⟨by rfl, ?_⟩) hS ?_
            rotate_left
            · intro wS hSw; (try dsimp only at hSw); go_simp
              try with_reducible rfl
            try simp only [Act.put, List.setIfInBounds_toArray, List.set_cons_zero, List.set_cons_succ]
            refine wpAnyH_take (i := 8) (v := ?_) rfl (by decide +kernel) (by decide +kernel) (by decide +kernel) (fun _ _ _ h => h) (Or.inl ⟨by rfl, ?_⟩) hS ?_
            rotate_left
            · intro wS hSw; (try dsimp only at hSw); go_simp
              try with_reducible rfl
            try simp only [Act.put, List.setIfInBounds_toArray, List.set_cons_zero, List.set_cons_succ]
            clear hS
            refine wpAnyH_ready (rs := [9]) (by kernel_rfl) (by simp) ?_
            refine AllReadyH.cons rfl (fun K hK => ?_) ?_
            · go_simp
              refine hK.out _ _ (by first | exact KZ.out | exact KS.out _ (by repeat (first | exact Fr.refl NoF _ | apply Fr.drew | apply Fr.drewN | apply Fr.alloc))) (fun hS => ?_)
              clear hK K
              try simp only [Act.put, List.setIfInBounds_toArray, List.set_cons_zero, List.set_cons_succ]
              refine wpAnyH_ready (rs := [10]) (by kernel_rfl) (by simp) ?_
              refine AllReadyH.cons rfl (fun K hK => ?_) ?_
              · refine appSB (base := wA.heap.size) EIro rfl (.tmp 91) (.tmp 93) rfl (by rfl) (by rfl) (Nat.le_trans HSZ.out (Fr.size (F := NoF) (w := wF) (by repeat (first | exact Fr.refl NoF _ | apply Fr.drew | apply Fr.drewN | apply Fr.alloc)))) (own_keep (HLS2.out.own ci hc) (by repeat (first | exact Fr.refl NoF _ | apply Fr.drew | apply Fr.drewN | apply Fr.alloc)) (fun _ _ q => q)) (SlC.ofOwn (own_new (w0 := wF) (Fr.size (F := NoF) (by repeat (first | exact Fr.refl NoF _ | apply Fr.drew | apply Fr.drewN | apply Fr.alloc))) #[_, _, _] 40 3 1 _ rfl rfl (by unfold maxLen; omega)) (by intro u hu; simp at hu; rcases hu with rfl | rfl | rfl <;> rfl)) (by have := HLN.out; unfold maxLen; omega) (by have := HLN.out; omega) ?_; intro v6 w6 hown6 hf6 hob6; have HO6 := Lib.hid hown6; have HF6 := Lib.hid hf6; have HB6 := Lib.hid hob6; have hkz := KF.out _ _ (by repeat (first | exact Fr.refl NoF _ | apply Fr.drew | apply Fr.drewN | apply Fr.alloc)) hf6; have KZ := Lib.hid hkz; clear hown6 hf6 hob6 hkz
                refine hK.out _ _ (by first | exact KZ.out | exact KS.out _ (by repeat (first | exact Fr.refl NoF _ | apply Fr.drew | apply Fr.drewN | apply Fr.alloc))) (fun hS => ?_)
                clear hK K
                try simp only [Act.put, List.setIfInBounds_toArray, List.set_cons_zero, List.set_cons_succ]
                refine wpAnyH_take (i := 11) (v := ?_) rfl (by decide +kernel) (by decide +kernel) (by decide +kernel) (fun _ _ _ h => h) (Or.inl ⟨by rfl, ?_⟩) hS ?_
                rotate_left
                · intro wS hSw; (try dsimp only at hSw); go_simp
                  try with_reducible rfl
                try simp only [Act.put, List.setIfInBounds_toArray, List.set_cons_zero, List.set_cons_succ]
                refine wpAnyH_done (by kernel_rfl) ?_ _
                show wpList _ _ _ _ _ _
                have h1c : ∀ u ∈ flatK (opsK (l.drop 4) j ci) ++ #[Value.int .i64 (k : Nat), .int .u32 (iv : Nat), .int .u64 (zv : Nat)].toList, u.oneCell' = true := fun u hu => by
                  rcases List.mem_append.1 hu with q | q
                  · exact flatK_one _ u q
                  · simp only [List.mem_cons, List.not_mem_nil, or_false] at q
                    rcases q with rfl | rfl | rfl <;> rfl
                obtain ⟨a6, c6, rfl, _, _⟩ := (SlC.ofOwn HO6.out h1c).shape
                clear h1c
                have fz : Fr NoF wF (wF.alloc (.cells #[.int .i64 (k : Nat), .int .u32 (iv : Nat), .int .u64 (zv : Nat)] 40)) := (Fr.refl NoF wF).alloc _
                have hL5 := HLS2.out.fr0 fz
                have hb6 := hL5.blk.fr HF6.out (fun q => hL5.nb ci hc _ q rfl)
                have PUT := Lib.hid (hL5.put hc (o := ⟨k, iv, zv⟩) HO6.out HF6.out HB6.out)
                have hA6 := (HAR2.out.fr fz id).fr HF6.out (fun q => by have := ownBlock_own (HLS2.out.own ci hc) _ q; omega)
                have fs : Fr (fun i => i = bM) w6 (w6.setCell ⟨bM, ci, none⟩ (.slice a6 ((opsK (l.drop 4) j ci).length + 1) c6)) := fr_res (Fr.refl _ _) ci _
                have PAR := Lib.hid (hA6.fr fs (fun q => nAM q))
                have PFR : Hid (Fr NoF wB (w6.setCell ⟨bM, ci, none⟩ (.slice a6 ((opsK (l.drop 4) j ci).length + 1) c6))) := Fr.setCell (Fr.trans (HFR2.out.trans fz (fun _ q => q.elim)) HF6.out (fun i q => .inr (Nat.le_trans HF.out.size (ownBlock_own (HLS2.out.own ci hc) i q)))) (p := ⟨bM, ci, none⟩) (.inr (iM)) _
                have PSZ := Lib.hid (Nat.le_trans (Nat.le_trans (Nat.le_trans HSZ.out fz.size) HF6.out.size) fs.size)
                have k1 := KZ.out.2.1
                have k2 := hb6.frozen ci
                have k3 := hb6.lt
                clear fz hL5 hb6 hA6 fs HO6 HF6 HB6 KZ KS KF c0 c1 d0 d1 d2 HLS2 HFR2 HAR2
                have w33 := HW33.out
                go_wp2
                go_roundw
                case rel => exact ⟨j + 1, by omega, by go_num, by have := HTJ.out; congr 1; omega, ⟨_, by
                  show L3T _ _ _ _ _ (upd (opsK (l.drop 4) j) (whoK (l.drop 4) j) (opsK (l.drop 4) j (whoK (l.drop 4) j) ++ [opK (l.drop 4) j]))
                  rw [EW.out.1, EW.out.2]
                  exact PUT.out⟩, PAR.out, PFR.out, PSZ.out⟩
                case measure => simp [intOf]; omega
              exact AllReadyH.nil
            exact AllReadyH.nil
          · have b0 : ((k : Int) != 0) = true := by rw [Bool.eq_iff_iff]; simp; omega
            have b6 : ((k : Int) != 6) = false := by rw [Bool.eq_iff_iff]; simp; omega
            have b4 : ((k : Int) == 4) = false := by rw [Bool.eq_iff_iff]; simp; omega
            have HQ := Lib.hid q
            clear q
            go_upto_region 13 with fail
            (try rw [HX16.out, eq3])
            have hU : ∃ vE, Blk (wc) g 3 vE ∧ vE 0 = .int .i64 (k : Nat) ∧ vE 1 = .int .u32 (iv : Nat) ∧ vE 2 = .int .u64 (zv : Nat) := ⟨_, HG.out, rfl, by rw [HIV.out, if_neg (by have q := HQ.out; simp [idZ, q])]; rfl, by rw [HZV.out, if_neg (by have q := HQ.out; simp [vZ]; omega)]; rfl⟩
            have hD : Fr NoF wD (wc) := by repeat (first | exact HDX.out | apply fr_new hDg)
            rename World => wE
            obtain ⟨vE, hE, e0, e1, e2⟩ := hU
            have fd : Fr NoF wE wE.drew := (Fr.refl NoF wE).drew
            have hD2 := hD.trans fd (fun _ q => q.elim)
            have HLS2 := Lib.hid (HLS.out.fr0 hD2)
            have HAR2 := Lib.hid (HAR.out.fr hD2 id)
            have HFR2 := Lib.hid (HFR.out.trans hD2 (fun _ q => q.elim))
            have HSZ := Lib.hid (Nat.le_trans hszD hD2.size)
            have hE2 := hE.fr fd id
            have hng : ∀ i, (vs ci).ownBlock = some i → i < wD.heap.size := fun i q => (World.ownsRow.lt (HLS.out.own ci hc) i q).2
            clear HLS HAR HFR hE fd hD2 hD HG HDX
            refine region_tail (fun w' => w'.cell? ⟨bA, 3, none⟩ = some (.slice (some ⟨bM, 0, none⟩) 3 3) ∧ w'.cell? ⟨bM, ci, none⟩ = some (vs ci) ∧ w'.cell? ⟨g, 0, none⟩ = some (.int .i64 (k : Nat)) ∧ w'.cell? ⟨g, 1, none⟩ = some (.int .u32 (iv : Nat)) ∧ w'.cell? ⟨g, 2, none⟩ = some (.int .u64 (zv : Nat))) 12 (by kernel_rfl) rfl rfl (by kernel_rfl) ?_
            simp only [List.take_succ_cons, List.take_zero]
            generalize wE.drew = wF at *
            have HLN : Hid ((opsK (l.drop 4) j ci).length ≤ 60) := Lib.hid (by have := opsK_len (l.drop 4) j ci; omega)
            have hci : (ci : Int) < 3 := by omega
            have c0 := HAR2.out.cell (i := 3) (by omega)
            rw [HVA.out.2.2.2.1] at c0
            have c1 := HLS2.out.blk.cell hc
            have d0 := hE2.cell (i := 0) (by omega)
            rw [e0] at d0
            have d1 := hE2.cell (i := 1) (by omega)
            rw [e1] at d1
            have d2 := hE2.cell (i := 2) (by omega)
            rw [e2] at d2
            have KF : Hid (∀ W W', Fr NoF wF W → Fr (fun b => (vs ci).ownBlock = some b) W W' → (fun w' => w'.cell? ⟨bA, 3, none⟩ = some (.slice (some ⟨bM, 0, none⟩) 3 3) ∧ w'.cell? ⟨bM, ci, none⟩ = some (vs ci) ∧ w'.cell? ⟨g, 0, none⟩ = some (.int .i64 (k : Nat)) ∧ w'.cell? ⟨g, 1, none⟩ = some (.int .u32 (iv : Nat)) ∧ w'.cell? ⟨g, 2, none⟩ = some (.int .u64 (zv : Nat))) W') := Lib.hid fun W W' f f2 => by
              have hM7 := (HLS2.out.fr0 f).blk.fr f2 (fun q => HLS2.out.nb ci hc _ q rfl)
              have hA7 := (HAR2.out.fr f id).fr f2 (fun q => by have := ownBlock_own (HLS2.out.own ci hc) _ q; omega)
              have hE7 := (hE2.fr f id).fr f2 (fun q => by have := hng _ q; omega)
              exact ⟨by rw [← HVA.out.2.2.2.1]; exact hA7.cell (i := 3) (by omega), hM7.cell hc, by rw [← e0]; exact hE7.cell (i := 0) (by omega), by rw [← e1]; exact hE7.cell (i := 1) (by omega), by rw [← e2]; exact hE7.cell (i := 2) (by omega)⟩
            have KS : Hid (∀ W, Fr NoF wF W → (fun w' => w'.cell? ⟨bA, 3, none⟩ = some (.slice (some ⟨bM, 0, none⟩) 3 3) ∧ w'.cell? ⟨bM, ci, none⟩ = some (vs ci) ∧ w'.cell? ⟨g, 0, none⟩ = some (.int .i64 (k : Nat)) ∧ w'.cell? ⟨g, 1, none⟩ = some (.int .u32 (iv : Nat)) ∧ w'.cell? ⟨g, 2, none⟩ = some (.int .u64 (zv : Nat))) W) := Lib.hid fun W f => KF.out W W f (Fr.refl _ _)
            have hS : (fun w' => w'.cell? ⟨bA, 3, none⟩ = some (.slice (some ⟨bM, 0, none⟩) 3 3) ∧ w'.cell? ⟨bM, ci, none⟩ = some (vs ci) ∧ w'.cell? ⟨g, 0, none⟩ = some (.int .i64 (k : Nat)) ∧ w'.cell? ⟨g, 1, none⟩ = some (.int .u32 (iv : Nat)) ∧ w'.cell? ⟨g, 2, none⟩ = some (.int .u64 (zv : Nat))) wF := ⟨c0, c1, d0, d1, d2⟩
            refine wpAnyH_take (i := 0) (v := ?_) rfl (by decide +kernel) (by decide +kernel) (by decide +kernel) (fun _ _ _ h => h) (Or.inl ⟨by rfl, ?_⟩) hS ?_
            rotate_left
            · intro wS hSw; (try dsimp only at hSw); go_simp
              try with_reducible rfl
            try simp only [Act.put, List.setIfInBounds_toArray, List.set_cons_zero, List.set_cons_succ]
            refine wpAnyH_take (i := 1) (v := ?_) rfl (by decide +kernel) (by decide +kernel) (by decide +kernel) (fun _ _ _ h => h) (Or.inl ⟨by rfl, ?_⟩) hS ?_
            rotate_left
            · intro wS hSw; (try dsimp only at hSw); go_simp
              try with_reducible rfl
            try simp only [Act.put, List.setIfInBounds_toArray, List.set_cons_zero, List.set_cons_succ]
            refine wpAnyH_take (i := 2) (v := ?_) rfl (by decide +kernel) (by decide +kernel) (by decide +kernel) (fun _ _ _ h => h) (Or.inl ⟨by rfl, ?_⟩) hS ?_
            rotate_left
            · intro wS hSw; (try dsimp only at hSw); go_simp
              try with_reducible rfl
            try simp only [Act.put, List.setIfInBounds_toArray, List.set_cons_zero, List.set_cons_succ]
            refine wpAnyH_take (i := 3) (v := ?_) rfl (by decide +kernel) (by decide +kernel) (by decide +kernel) (fun _ _ _ h => h) (Or.inl ⟨by rfl, ?_⟩) hS ?_
            rotate_left
            · intro wS hSw; (try dsimp only at hSw); go_simp
              try with_reducible rfl
            try simp only [Act.put, List.setIfInBounds_toArray, List.set_cons_zero, List.set_cons_succ]
            refine wpAnyH_take (i := 4) (v := ?_) rfl (by decide +kernel) (by decide +kernel) (by decide +kernel) (fun _ _ _ h => h) (Or.inl ⟨by rfl, ?_⟩) hS ?_
            rotate_left
            · intro wS hSw; (try dsimp only at hSw); go_simp
              try with_reducible rfl
            try simp only [Act.put, List.setIfInBounds_toArray, List.set_cons_zero, List.set_cons_succ]
            refine wpAnyH_take (i := 5) (v := ?_) rfl (by decide +kernel) (by decide +kernel) (by decide +kernel) (fun _ _ _ h => h) (Or.inl ⟨by rfl, ?_⟩) hS ?_
            rotate_left
            · intro wS hSw; (try dsimp only at hSw); go_simp
              try with_reducible rfl
            try simp only [Act.put, List.setIfInBounds_toArray, List.set_cons_zero, List.set_cons_succ]
            refine wpAnyH_take (i := 6) (v := ?_) rfl (by decide +kernel) (by decide +kernel) (by decide +kernel) (fun _ _ _ h => h) (Or.inl ⟨by rfl, ?_⟩) hS ?_
            rotate_left
            · intro wS hSw; (try dsimp only at hSw); go_simp
              try with_reducible rfl
            try simp only [Act.put, List.setIfInBounds_toArray, List.set_cons_zero, List.set_cons_succ]
            refine wpAnyH_take (i := 7) (v := ?_) rfl (by decide +kernel) (by decide +kernel) (by decide +kernel) (fun _ _ _ h => h) (Or.inl ⟨by rfl, ?_⟩) hS ?_
            rotate_left
            · intro wS hSw; (try dsimp only at hSw); go_simp
              try with_reducible rfl
            try simp only [Act.put, List.setIfInBounds_toArray, List.set_cons_zero, List.set_cons_succ]
            refine wpAnyH_take (i := 8) (v := ?_) rfl (by decide +kernel) (by decide +kernel) (by decide +kernel) (fun _ _ _ h => h) (Or.inl ⟨by rfl, ?_⟩) hS ?_
            rotate_left
            · intro wS hSw; (try dsimp only at hSw); go_simp
              try with_reducible rfl
            try simp only [Act.put, List.setIfInBounds_toArray, List.set_cons_zero, List.set_cons_succ]
            clear hS
            refine wpAnyH_ready (rs := [9]) (by kernel_rfl) (by simp) ?_
            refine AllReadyH.cons rfl (fun K hK => ?_) ?_
            · go_simp
              refine hK.out _ _ (by first | exact KZ.out | exact KS.out _ (by repeat (first | exact Fr.refl NoF _ | apply Fr.drew | apply Fr.drewN | apply Fr.alloc))) (fun hS => ?_)
              clear hK K
              try simp only [Act.put, List.setIfInBounds_toArray, List.set_cons_zero, List.set_cons_succ]
              refine wpAnyH_ready (rs := [10]) (by kernel_rfl) (by simp) ?_
              refine AllReadyH.cons rfl (fun K hK => ?_) ?_
              · refine appSB (base := wA.heap.size) EIro rfl (.tmp 91) (.tmp 93) rfl (by rfl) (by rfl) (Nat.le_trans HSZ.out (Fr.size (F := NoF) (w := wF) (by repeat (first | exact Fr.refl NoF _ | apply Fr.drew | apply Fr.drewN | apply Fr.alloc)))) (own_keep (HLS2.out.own ci hc) (by repeat (first | exact Fr.refl NoF _ | apply Fr.drew | apply Fr.drewN | apply Fr.alloc)) (fun _ _ q => q)) (SlC.ofOwn (own_new (w0 := wF) (Fr.size (F := NoF) (by repeat (first | exact Fr.refl NoF _ | apply Fr.drew | apply Fr.drewN | apply Fr.alloc))) #[_, _, _] 40 3 1 _ rfl rfl (by unfold maxLen; omega)) (by intro u hu; simp at hu; rcases hu with rfl | rfl | rfl <;> rfl)) (by have := HLN.out; unfold maxLen; omega) (by have := HLN.out; omega) ?_; intro v6 w6 hown6 hf6 hob6; have HO6 := Lib.hid hown6; have HF6 := Lib.hid hf6; have HB6 := Lib.hid hob6; have hkz := KF.out _ _ (by repeat (first | exact Fr.refl NoF _ | apply Fr.drew | apply Fr.drewN | apply Fr.alloc)) hf6; have KZ := Lib.hid hkz; clear hown6 hf6 hob6 hkz
                refine hK.out _ _ (by first | exact KZ.out | exact KS.out _ (by repeat (first | exact Fr.refl NoF _ | apply Fr.drew | apply Fr.drewN | apply Fr.alloc))) (fun hS => ?_)
                clear hK K
                try simp only [Act.put, List.setIfInBounds_toArray, List.set_cons_zero, List.set_cons_succ]
                refine wpAnyH_take (i := 11) (v := ?_) rfl (by decide +kernel) (by decide +kernel) (by decide +kernel) (fun _ _ _ h => h) (Or.inl ⟨by rfl, ?_⟩) hS ?_
                rotate_left
                · intro wS hSw; (try dsimp only at hSw); go_simp
                  try with_reducible rfl
                try simp only [Act.put, List.setIfInBounds_toArray, List.set_cons_zero, List.set_cons_succ]
                refine wpAnyH_done (by kernel_rfl) ?_ _
                show wpList _ _ _ _ _ _
                have h1c : ∀ u ∈ flatK (opsK (l.drop 4) j ci) ++ #[Value.int .i64 (k : Nat), .int .u32 (iv : Nat), .int .u64 (zv : Nat)].toList, u.oneCell' = true := fun u hu => by
                  rcases List.mem_append.1 hu with q | q
                  · exact flatK_one _ u q
                  · simp only [List.mem_cons, List.not_mem_nil, or_false] at q
                    rcases q with rfl | rfl | rfl <;> rfl
                obtain ⟨a6, c6, rfl, _, _⟩ := (SlC.ofOwn HO6.out h1c).shape
                clear h1c
                have fz : Fr NoF wF (wF.alloc (.cells #[.int .i64 (k : Nat), .int .u32 (iv : Nat), .int .u64 (zv : Nat)] 40)) := (Fr.refl NoF wF).alloc _
                have hL5 := HLS2.out.fr0 fz
                have hb6 := hL5.blk.fr HF6.out (fun q => hL5.nb ci hc _ q rfl)
                have PUT := Lib.hid (hL5.put hc (o := ⟨k, iv, zv⟩) HO6.out HF6.out HB6.out)
                have hA6 := (HAR2.out.fr fz id).fr HF6.out (fun q => by have := ownBlock_own (HLS2.out.own ci hc) _ q; omega)
                have fs : Fr (fun i => i = bM) w6 (w6.setCell ⟨bM, ci, none⟩ (.slice a6 ((opsK (l.drop 4) j ci).length + 1) c6)) := fr_res (Fr.refl _ _) ci _
                have PAR := Lib.hid (hA6.fr fs (fun q => nAM q))
                have PFR : Hid (Fr NoF wB (w6.setCell ⟨bM, ci, none⟩ (.slice a6 ((opsK (l.drop 4) j ci).length + 1) c6))) := Fr.setCell (Fr.trans (HFR2.out.trans fz (fun _ q => q.elim)) HF6.out (fun i q => .inr (Nat.le_trans HF.out.size (ownBlock_own (HLS2.out.own ci hc) i q)))) (p := ⟨bM, ci, none⟩) (.inr (iM)) _
                have PSZ := Lib.hid (Nat.le_trans (Nat.le_trans (Nat.le_trans HSZ.out fz.size) HF6.out.size) fs.size)
                have k1 := KZ.out.2.1
                have k2 := hb6.frozen ci
                have k3 := hb6.lt
                clear fz hL5 hb6 hA6 fs HO6 HF6 HB6 KZ KS KF c0 c1 d0 d1 d2 HLS2 HFR2 HAR2
                have w33 := HW33.out
                go_wp2
                go_roundw
                case rel => exact ⟨j + 1, by omega, by go_num, by have := HTJ.out; congr 1; omega, ⟨_, by
                  show L3T _ _ _ _ _ (upd (opsK (l.drop 4) j) (whoK (l.drop 4) j) (opsK (l.drop 4) j (whoK (l.drop 4) j) ++ [opK (l.drop 4) j]))
                  rw [EW.out.1, EW.out.2]
                  exact PUT.out⟩, PAR.out, PFR.out, PSZ.out⟩
                case measure => simp [intOf]; omega
              exact AllReadyH.nil
            exact AllReadyH.nil
          · have b0 : ((k : Int) != 0) = true := by rw [Bool.eq_iff_iff]; simp; omega
            have b6 : ((k : Int) != 6) = true := by rw [Bool.eq_iff_iff]; simp; omega
            have b4 : ((k : Int) == 4) = true := by rw [Bool.eq_iff_iff]; simp; omega
            have HQ := Lib.hid q
            clear q
            go_upto_region 13 with fail
            (try rw [HX16.out, eq3])
            have hU : ∃ vE, Blk ((wc.setCell ⟨g, 1, none⟩ (.int .u32 (1 + (yt : Int)))).setCell ⟨g, 2, none⟩ (.int .u64 (z : Nat))) g 3 vE ∧ vE 0 = .int .i64 (k : Nat) ∧ vE 1 = .int .u32 (iv : Nat) ∧ vE 2 = .int .u64 (zv : Nat) := ⟨_, (HG.out.set 1 _).set 2 _, rfl, by show Value.int .u32 (1 + (yt : Int)) = _; rw [HIV.out, if_pos (by have q := HQ.out; simp [idZ]; omega)]; simp, by show Value.int .u64 ((z : Nat) : Int) = _; rw [HZV.out, if_pos (by have q := HQ.out; simp [vZ, q])]⟩
            have hD : Fr NoF wD ((wc.setCell ⟨g, 1, none⟩ (.int .u32 (1 + (yt : Int)))).setCell ⟨g, 2, none⟩ (.int .u64 (z : Nat))) := by repeat (first | exact HDX.out | apply fr_new hDg)
            generalize (wc.setCell ⟨g, 1, none⟩ (.int .u32 (1 + (yt : Int)))).setCell ⟨g, 2, none⟩ (.int .u64 (z : Nat)) = wE at *
            obtain ⟨vE, hE, e0, e1, e2⟩ := hU
            have fd : Fr NoF wE wE.drew := (Fr.refl NoF wE).drew
            have hD2 := hD.trans fd (fun _ q => q.elim)
            have HLS2 := Lib.hid (HLS.out.fr0 hD2)
            have HAR2 := Lib.hid (HAR.out.fr hD2 id)
            have HFR2 := Lib.hid (HFR.out.trans hD2 (fun _ q => q.elim))
            have HSZ := Lib.hid (Nat.le_trans hszD hD2.size)
            have hE2 := hE.fr fd id
            have hng : ∀ i, (vs ci).ownBlock = some i → i < wD.heap.size := fun i q => (World.ownsRow.lt (HLS.out.own ci hc) i q).2
            clear HLS HAR HFR hE fd hD2 hD HG HDX
            refine region_tail (fun w' => w'.cell? ⟨bA, 3, none⟩ = some (.slice (some ⟨bM, 0, none⟩) 3 3) ∧ w'.cell? ⟨bM, ci, none⟩ = some (vs ci) ∧ w'.cell? ⟨g, 0, none⟩ = some (.int .i64 (k : Nat)) ∧ w'.cell? ⟨g, 1, none⟩ = some (.int .u32 (iv : Nat)) ∧ w'.cell? ⟨g, 2, none⟩ = some (.int .u64 (zv : Nat))) 12 (by kernel_rfl) rfl rfl (by kernel_rfl) ?_
            simp only [List.take_succ_cons, List.take_zero]
            generalize wE.drew = wF at *
            have HLN : Hid ((opsK (l.drop 4) j ci).length ≤ 60) := Lib.hid (by have := opsK_len (l.drop 4) j ci; omega)
            have hci : (ci : Int) < 3 := by omega
            have c0 := HAR2.out.cell (i := 3) (by omega)
            rw [HVA.out.2.2.2.1] at c0
            have c1 := HLS2.out.blk.cell hc
            have d0 := hE2.cell (i := 0) (by omega)
            rw [e0] at d0
            have d1 := hE2.cell (i := 1) (by omega)
            rw [e1] at d1
            have d2 := hE2.cell (i := 2) (by omega)
            rw [e2] at d2
            have KF : Hid (∀ W W', Fr NoF wF W → Fr (fun b => (vs ci).ownBlock = some b) W W' → (fun w' => w'.cell? ⟨bA, 3, none⟩ = some (.slice (some ⟨bM, 0, none⟩) 3 3) ∧ w'.cell? ⟨bM, ci, none⟩ = some (vs ci) ∧ w'.cell? ⟨g, 0, none⟩ = some (.int .i64 (k : Nat)) ∧ w'.cell? ⟨g, 1, none⟩ = some (.int .u32 (iv : Nat)) ∧ w'.cell? ⟨g, 2, none⟩ = some (.int .u64 (zv : Nat))) W') := Lib.hid fun W W' f f2 => by
              have hM7 := (HLS2.out.fr0 f).blk.fr f2 (fun q => HLS2.out.nb ci hc _ q rfl)
              have hA7 := (HAR2.out.fr f id).fr f2 (fun q => by have := ownBlock_own (HLS2.out.own ci hc) _ q; omega)
              have hE7 := (hE2.fr f id).fr f2 (fun q => by have := hng _ q; omega)
              exact ⟨by rw [← HVA.out.2.2.2.1]; exact hA7.cell (i := 3) (by omega), hM7.cell hc, by rw [← e0]; exact hE7.cell (i := 0) (by omega), by rw [← e1]; exact hE7.cell (i := 1) (by omega), by rw [← e2]; exact hE7.cell (i := 2) (by omega)⟩
            have KS : Hid (∀ W, Fr NoF wF W → (fun w' => w'.cell? ⟨bA, 3, none⟩ = some (.slice (some ⟨bM, 0, none⟩) 3 3) ∧ w'.cell? ⟨bM, ci, none⟩ = some (vs ci) ∧ w'.cell? ⟨g, 0, none⟩ = some (.int .i64 (k : Nat)) ∧ w'.cell? ⟨g, 1, none⟩ = some (.int .u32 (iv : Nat)) ∧ w'.cell? ⟨g, 2, none⟩ = some (.int .u64 (zv : Nat))) W) := Lib.hid fun W f => KF.out W W f (Fr.refl _ _)
            have hS : (fun w' => w'.cell? ⟨bA, 3, none⟩ = some (.slice (some ⟨bM, 0, none⟩) 3 3) ∧ w'.cell? ⟨bM, ci, none⟩ = some (vs ci) ∧ w'.cell? ⟨g, 0, none⟩ = some (.int .i64 (k : Nat)) ∧ w'.cell? ⟨g, 1, none⟩ = some (.int .u32 (iv : Nat)) ∧ w'.cell? ⟨g, 2, none⟩ = some (.int .u64 (zv : Nat))) wF := ⟨c0, c1, d0, d1, d2⟩
            refine wpAnyH_take (i := 0) (v := ?_) rfl (by decide +kernel) (by decide +kernel) (by decide +kernel) (fun _ _ _ h => h) (Or.inl ⟨by rfl, ?_⟩) hS ?_
            rotate_left
            · intro wS hSw; (try dsimp only at hSw); go_simp
              try with_reducible rfl
            try simp only [Act.put, List.setIfInBounds_toArray, List.set_cons_zero, List.set_cons_succ]
            refine wpAnyH_take (i := 1) (v := ?_) rfl (by decide +kernel) (by decide +kernel) (by decide +kernel) (fun _ _ _ h => h) (Or.inl ⟨by rfl, ?_⟩) hS ?_
            rotate_left
            · intro wS hSw; (try dsimp only at hSw); go_simp
              try with_reducible rfl
            try simp only [Act.put, List.setIfInBounds_toArray, List.set_cons_zero, List.set_cons_succ]
            refine wpAnyH_take (i := 2) (v := ?_) rfl (by decide +kernel) (by decide +kernel) (by decide +kernel) (fun _ _ _ h => h) (Or.inl ⟨by rfl, ?_⟩) hS ?_
            rotate_left
            · intro wS hSw; (try dsimp only at hSw); go_simp
              try with_reducible rfl
            try simp only [Act.put, List.setIfInBounds_toArray, List.set_cons_zero, List.set_cons_succ]
            refine wpAnyH_take (i := 3) (v := ?_) rfl (by decide +kernel) (by decide +kernel) (by decide +kernel) (fun _ _ _ h => h) (Or.inl ⟨by rfl, ?_⟩) hS ?_
            rotate_left
            · intro wS hSw; (try dsimp only at hSw); go_simp
              try with_reducible rfl
            try simp only [Act.put, List.setIfInBounds_toArray, List.set_cons_zero, List.set_cons_succ]
            refine wpAnyH_take (i := 4) (v := ?_) rfl (by decide +kernel) (by decide +kernel) (by decide +kernel) (fun _ _ _ h => h) (Or.inl ⟨by rfl, ?_⟩) hS ?_
            rotate_left
            · intro wS hSw; (try dsimp only at hSw); go_simp
              try with_reducible rfl
            try simp only [Act.put, List.setIfInBounds_toArray, List.set_cons_zero, List.set_cons_succ]
            refine wpAnyH_take (i := 5) (v := ?_) rfl (by decide +kernel) (by decide +kernel) (by decide +kernel) (fun _ _ _ h => h) (Or.inl ⟨by rfl, ?_⟩) hS ?_
            rotate_left
            · intro wS hSw; (try dsimp only at hSw); go_simp
              try with_reducible rfl
            try simp only [Act.put, List.setIfInBounds_toArray, List.set_cons_zero, List.set_cons_succ]
            refine wpAnyH_take (i := 6) (v := ?_) rfl (by decide +kernel) (by decide +kernel) (by decide +kernel) (fun _ _ _ h => h) (Or.inl ⟨by rfl, ?_⟩) hS ?_
            rotate_left
            · intro wS hSw; (try dsimp only at hSw); go_simp
              try with_reducible rfl
            try simp only [Act.put, List.setIfInBounds_toArray, List.set_cons_zero, List.set_cons_succ]
            refine wpAnyH_take (i := 7) (v := ?_) rfl (by decide +kernel) (by decide +kernel) (by decide +kernel) (fun _ _ _ h => h) (Or.inl ⟨by rfl, ?_⟩) hS ?_
            rotate_left
            · intro wS hSw; (try dsimp only at hSw); go_simp
              try with_reducible rfl
            try simp only [Act.put, List.setIfInBounds_toArray, List.set_cons_zero, List.set_cons_succ]
            refine wpAnyH_take (i := 8) (v := ?_) rfl (by decide +kernel) (by decide +kernel) (by decide +kernel) (fun _ _ _ h => h) (Or.inl ⟨by rfl, ?_⟩) hS ?_
            rotate_left
            · intro wS hSw; (try dsimp only at hSw); go_simp
              try with_reducible rfl
            try simp only [Act.put, List.setIfInBounds_toArray, List.set_cons_zero, List.set_cons_succ]
            clear hS
            refine wpAnyH_ready (rs := [9]) (by kernel_rfl) (by simp) ?_
            refine AllReadyH.cons rfl (fun K hK => ?_) ?_
            · go_simp
              refine hK.out _ _ (by first | exact KZ.out | exact KS.out _ (by repeat (first | exact Fr.refl NoF _ | apply Fr.drew | apply Fr.drewN | apply Fr.alloc))) (fun hS => ?_)
              clear hK K
              try simp only [Act.put, List.setIfInBounds_toArray, List.set_cons_zero, List.set_cons_succ]
              refine wpAnyH_ready (rs := [10]) (by kernel_rfl) (by simp) ?_
              refine AllReadyH.cons rfl (fun K hK => ?_) ?_
              · refine appSB (base := wA.heap.size) EIro rfl (.tmp 91) (.tmp 93) rfl (by rfl) (by rfl) (Nat.le_trans HSZ.out (Fr.size (F := NoF) (w := wF) (by repeat (first | exact Fr.refl NoF _ | apply Fr.drew | apply Fr.drewN | apply Fr.alloc)))) (own_keep (HLS2.out.own ci hc) (by repeat (first | exact Fr.refl NoF _ | apply Fr.drew | apply Fr.drewN | apply Fr.alloc)) (fun _ _ q => q)) (SlC.ofOwn (own_new (w0 := wF) (Fr.size (F := NoF) (by repeat (first | exact Fr.refl NoF _ | apply Fr.drew | apply Fr.drewN | apply Fr.alloc))) #[_, _, _] 40 3 1 _ rfl rfl (by unfold maxLen; omega)) (by intro u hu; simp at hu; rcases hu with rfl | rfl | rfl <;> rfl)) (by have := HLN.out; unfold maxLen; omega) (by have := HLN.out; omega) ?_; intro v6 w6 hown6 hf6 hob6; have HO6 := Lib.hid hown6; have HF6 := Lib.hid hf6; have HB6 := Lib.hid hob6; have hkz := KF.out _ _ (by repeat (first | exact Fr.refl NoF _ | apply Fr.drew | apply Fr.drewN | apply Fr.alloc)) hf6; have KZ := Lib.hid hkz; clear hown6 hf6 hob6 hkz
                refine hK.out _ _ (by first | exact KZ.out | exact KS.out _ (by repeat (first | exact Fr.refl NoF _ | apply Fr.drew | apply Fr.drewN | apply Fr.alloc))) (fun hS => ?_)
                clear hK K
                try simp only [Act.put, List.setIfInBounds_toArray, List.set_cons_zero, List.set_cons_succ]
                refine wpAnyH_take (i := 11) (v := ?_) rfl (by decide +kernel) (by decide +kernel) (by decide +kernel) (fun _ _ _ h => h) (Or.inl ⟨by rfl, ?_⟩) hS ?_
                rotate_left
                · intro wS hSw; (try dsimp only at hSw); go_simp
                  try with_reducible rfl
                try simp only [Act.put, List.setIfInBounds_toArray, List.set_cons_zero, List.set_cons_succ]
                refine wpAnyH_done (by kernel_rfl) ?_ _
                show wpList _ _ _ _ _ _
                have h1c : ∀ u ∈ flatK (opsK (l.drop 4) j ci) ++ #[Value.int .i64 (k : Nat), .int .u32 (iv : Nat), .int .u64 (zv : Nat)].toList, u.oneCell' = true := fun u hu => by
                  rcases List.mem_append.1 hu with q | q
                  · exact flatK_one _ u q
                  · simp only [List.mem_cons, List.not_mem_nil, or_false] at q
                    rcases q with rfl | rfl | rfl <;> rfl
                obtain ⟨a6, c6, rfl, _, _⟩ := (SlC.ofOwn HO6.out h1c).shape
                clear h1c
                have fz : Fr NoF wF (wF.alloc (.cells #[.int .i64 (k : Nat), .int .u32 (iv : Nat), .int .u64 (zv : Nat)] 40)) := (Fr.refl NoF wF).alloc _
                have hL5 := HLS2.out.fr0 fz
                have hb6 := hL5.blk.fr HF6.out (fun q => hL5.nb ci hc _ q rfl)
                have PUT := Lib.hid (hL5.put hc (o := ⟨k, iv, zv⟩) HO6.out HF6.out HB6.out)
                have hA6 := (HAR2.out.fr fz id).fr HF6.out (fun q => by have := ownBlock_own (HLS2.out.own ci hc) _ q; omega)
                have fs : Fr (fun i => i = bM) w6 (w6.setCell ⟨bM, ci, none⟩ (.slice a6 ((opsK (l.drop 4) j ci).length + 1) c6)) := fr_res (Fr.refl _ _) ci _
                have PAR := Lib.hid (hA6.fr fs (fun q => nAM q))
                have PFR : Hid (Fr NoF wB (w6.setCell ⟨bM, ci, none⟩ (.slice a6 ((opsK (l.drop 4) j ci).length + 1) c6))) := Fr.setCell (Fr.trans (HFR2.out.trans fz (fun _ q => q.elim)) HF6.out (fun i q => .inr (Nat.le_trans HF.out.size (ownBlock_own (HLS2.out.own ci hc) i q)))) (p := ⟨bM, ci, none⟩) (.inr (iM)) _
                have PSZ := Lib.hid (Nat.le_trans (Nat.le_trans (Nat.le_trans HSZ.out fz.size) HF6.out.size) fs.size)
                have k1 := KZ.out.2.1
                have k2 := hb6.frozen ci
                have k3 := hb6.lt
                clear fz hL5 hb6 hA6 fs HO6 HF6 HB6 KZ KS KF c0 c1 d0 d1 d2 HLS2 HFR2 HAR2
                have w33 := HW33.out
                go_wp2
                go_roundw
                case rel => exact ⟨j + 1, by omega, by go_num, by have := HTJ.out; congr 1; omega, ⟨_, by
                  show L3T _ _ _ _ _ (upd (opsK (l.drop 4) j) (whoK (l.drop 4) j) (opsK (l.drop 4) j (whoK (l.drop 4) j) ++ [opK (l.drop 4) j]))
                  rw [EW.out.1, EW.out.2]
                  exact PUT.out⟩, PAR.out, PFR.out, PSZ.out⟩
                case measure => simp [intOf]; omega
              exact AllReadyH.nil
            exact AllReadyH.nil
          · have b0 : ((k : Int) != 0) = true := by rw [Bool.eq_iff_iff]; simp; omega
            have b6 : ((k : Int) != 6) = true := by rw [Bool.eq_iff_iff]; simp; omega
            have b4 : ((k : Int) == 4) = false := by rw [Bool.eq_iff_iff]; simp; omega
            have HQ := Lib.hid q
            clear q
            go_upto_region 13 with fail
            (try rw [HX16.out, eq3])
            have hU : ∃ vE, Blk (wc.setCell ⟨g, 1, none⟩ (.int .u32 (1 + (yt : Int)))) g 3 vE ∧ vE 0 = .int .i64 (k : Nat) ∧ vE 1 = .int .u32 (iv : Nat) ∧ vE 2 = .int .u64 (zv : Nat) := ⟨_, HG.out.set 1 _, rfl, by show Value.int .u32 (1 + (yt : Int)) = _; rw [HIV.out, if_pos (by have q := HQ.out; simp [idZ]; omega)]; simp, by rw [HZV.out, if_neg (by have q := HQ.out; simp [vZ]; omega)]; rfl⟩
            have hD : Fr NoF wD (wc.setCell ⟨g, 1, none⟩ (.int .u32 (1 + (yt : Int)))) := by repeat (first | exact HDX.out | apply fr_new hDg)
            generalize wc.setCell ⟨g, 1, none⟩ (.int .u32 (1 + (yt : Int))) = wE at *
            obtain ⟨vE, hE, e0, e1, e2⟩ := hU
            have fd : Fr NoF wE wE.drew := (Fr.refl NoF wE).drew
            have hD2 := hD.trans fd (fun _ q => q.elim)
            have HLS2 := Lib.hid (HLS.out.fr0 hD2)
            have HAR2 := Lib.hid (HAR.out.fr hD2 id)
            have HFR2 := Lib.hid (HFR.out.trans hD2 (fun _ q => q.elim))
            have HSZ := Lib.hid (Nat.le_trans hszD hD2.size)
            have hE2 := hE.fr fd id
            have hng : ∀ i, (vs ci).ownBlock = some i → i < wD.heap.size := fun i q => (World.ownsRow.lt (HLS.out.own ci hc) i q).2
            clear HLS HAR HFR hE fd hD2 hD HG HDX
            refine region_tail (fun w' => w'.cell? ⟨bA, 3, none⟩ = some (.slice (some ⟨bM, 0, none⟩) 3 3) ∧ w'.cell? ⟨bM, ci, none⟩ = some (vs ci) ∧ w'.cell? ⟨g, 0, none⟩ = some (.int .i64 (k : Nat)) ∧ w'.cell? ⟨g, 1, none⟩ = some (.int .u32 (iv : Nat)) ∧ w'.cell? ⟨g, 2, none⟩ = some (.int .u64 (zv : Nat))) 12 (by kernel_rfl) rfl rfl (by kernel_rfl) ?_
            simp only [List.take_succ_cons, List.take_zero]
            generalize wE.drew = wF at *
            have HLN : Hid ((opsK (l.drop 4) j ci).length ≤ 60) := Lib.hid (by have := opsK_len (l.drop 4) j ci; omega)
            have hci : (ci : Int) < 3 := by omega
            have c0 := HAR2.out.cell (i := 3) (by omega)
            rw [HVA.out.2.2.2.1] at c0
            have c1 := HLS2.out.blk.cell hc
            have d0 := hE2.cell (i := 0) (by omega)
            rw [e0] at d0
            have d1 := hE2.cell (i := 1) (by omega)
            rw [e1] at d1
            have d2 := hE2.cell (i := 2) (by omega)
            rw [e2] at d2
            have KF : Hid (∀ W W', Fr NoF wF W → Fr (fun b => (vs ci).ownBlock = some b) W W' → (fun w' => w'.cell? ⟨bA, 3, none⟩ = some (.slice (some ⟨bM, 0, none⟩) 3 3) ∧ w'.cell? ⟨bM, ci, none⟩ = some (vs ci) ∧ w'.cell? ⟨g, 0, none⟩ = some (.int .i64 (k : Nat)) ∧ w'.cell? ⟨g, 1, none⟩ = some (.int .u32 (iv : Nat)) ∧ w'.cell? ⟨g, 2, none⟩ = some (.int .u64 (zv : Nat))) W') := Lib.hid fun W W' f f2 => by
              have hM7 := (HLS2.out.fr0 f).blk.fr f2 (fun q => HLS2.out.nb ci hc _ q rfl)
              have hA7 := (HAR2.out.fr f id).fr f2 (fun q => by have := ownBlock_own (HLS2.out.own ci hc) _ q; omega)
              have hE7 := (hE2.fr f id).fr f2 (fun q => by have := hng _ q; omega)
              exact ⟨by rw [← HVA.out.2.2.2.1]; exact hA7.cell (i := 3) (by omega), hM7.cell hc, by rw [← e0]; exact hE7.cell (i := 0) (by omega), by rw [← e1]; exact hE7.cell (i := 1) (by omega), by rw [← e2]; exact hE7.cell (i := 2) (by omega)⟩
            have KS : Hid (∀ W, Fr NoF wF W → (fun w' => w'.cell? ⟨bA, 3, none⟩ = some (.slice (some ⟨bM, 0, none⟩) 3 3) ∧ w'.cell? ⟨bM, ci, none⟩ = some (vs ci) ∧ w'.cell? ⟨g, 0, none⟩ = some (.int .i64 (k : Nat)) ∧ w'.cell? ⟨g, 1, none⟩ = some (.int .u32 (iv : Nat)) ∧ w'.cell? ⟨g, 2, none⟩ = some (.int .u64 (zv : Nat))) W) := Lib.hid fun W f => KF.out W W f (Fr.refl _ _)
            have hS : (fun w' => w'.cell? ⟨bA, 3, none⟩ = some (.slice (some ⟨bM, 0, none⟩) 3 3) ∧ w'.cell? ⟨bM, ci, none⟩ = some (vs ci) ∧ w'.cell? ⟨g, 0, none⟩ = some (.int .i64 (k : Nat)) ∧ w'.cell? ⟨g, 1, none⟩ = some (.int .u32 (iv : Nat)) ∧ w'.cell? ⟨g, 2, none⟩ = some (.int .u64 (zv : Nat))) wF := ⟨c0, c1, d0, d1, d2⟩
            refine wpAnyH_take (i := 0) (v := ?_) rfl (by decide +kernel) (by decide +kernel) (by decide +kernel) (fun _ _ _ h => h) (Or.inl ⟨by rfl, ?_⟩) hS ?_
            rotate_left
            · intro wS hSw; (try dsimp only at hSw); go_simp
              try with_reducible rfl
            try simp only [Act.put, List.setIfInBounds_toArray, List.set_cons_zero, List.set_cons_succ]
            refine wpAnyH_take (i := 1) (v := ?_) rfl (by decide +kernel) (by decide +kernel) (by decide +kernel) (fun _ _ _ h => h) (Or.inl ⟨by rfl, ?_⟩) hS ?_
            rotate_left
            · intro wS hSw; (try dsimp only at hSw); go_simp
              try with_reducible rfl
            try simp only [Act.put, List.setIfInBounds_toArray, List.set_cons_zero, List.set_cons_succ]
            refine wpAnyH_take (i := 2) (v := ?_) rfl (by decide +kernel) (by decide +kernel) (by decide +kernel) (fun _ _ _ h => h) (Or.inl ⟨by rfl, ?_⟩) hS ?_
            rotate_left
            · intro wS hSw; (try dsimp only at hSw); go_simp
              try with_reducible rfl
            try simp only [Act.put, List.setIfInBounds_toArray, List.set_cons_zero, List.set_cons_succ]
            refine wpAnyH_take (i := 3) (v := ?_) rfl (by decide +kernel) (by decide +kernel) (by decide +kernel) (fun _ _ _ h => h) (Or.inl ⟨by rfl, ?_⟩) hS ?_
            rotate_left
            · intro wS hSw; (try dsimp only at hSw); go_simp
              try with_reducible rfl
            try simp only [Act.put, List.setIfInBounds_toArray, List.set_cons_zero, List.set_cons_succ]
            refine wpAnyH_take (i := 4) (v := ?_) rfl (by decide +kernel) (by decide +kernel) (by decide +kernel) (fun _ _ _ h => h) (Or.inl ⟨by rfl, ?_⟩) hS ?_
            rotate_left
            · intro wS hSw; (try dsimp only at hSw); go_simp
              try with_reducible rfl
            try simp only [Act.put, List.setIfInBounds_toArray, List.set_cons_zero, List.set_cons_succ]
            refine wpAnyH_take (i := 5) (v := ?_) rfl (by decide +kernel) (by decide +kernel) (by decide +kernel) (fun _ _ _ h => h) (Or.inl ⟨by rfl, ?_⟩) hS ?_
            rotate_left
            · intro wS hSw; (try dsimp only at hSw); go_simp
              try with_reducible rfl
            try simp only [Act.put, List.setIfInBounds_toArray, List.set_cons_zero, List.set_cons_succ]
            refine wpAnyH_take (i := 6) (v := ?_) rfl (by decide +kernel) (by decide +kernel) (by decide +kernel) (fun _ _ _ h => h) (Or.inl ⟨by rfl, ?_⟩) hS ?_
            rotate_left
            · intro wS hSw; (try dsimp only at hSw); go_simp
              try with_reducible rfl
            try simp only [Act.put, List.setIfInBounds_toArray, List.set_cons_zero, List.set_cons_succ]
            refine wpAnyH_take (i := 7) (v := ?_) rfl (by decide +kernel) (by decide +kernel) (by decide +kernel) (fun _ _ _ h => h) (Or.inl ⟨by rfl, ?_⟩) hS ?_
            rotate_left
            · intro wS hSw; (try dsimp only at hSw); go_simp
              try with_reducible rfl
            try simp only [Act.put, List.setIfInBounds_toArray, List.set_cons_zero, List.set_cons_succ]
            refine wpAnyH_take (i := 8) (v := ?_) rfl (by decide +kernel) (by decide +kernel) (by decide +kernel) (fun _ _ _ h => h) (Or.inl ⟨by rfl, ?_⟩) hS ?_
            rotate_left
            · intro wS hSw; (try dsimp only at hSw); go_simp
              try with_reducible rfl
            try simp only [Act.put, List.setIfInBounds_toArray, List.set_cons_zero, List.set_cons_succ]
            clear hS
            refine wpAnyH_ready (rs := [9]) (by kernel_rfl) (by simp) ?_
            refine AllReadyH.cons rfl (fun K hK => ?_) ?_
            · go_simp
              refine hK.out _ _ (by first | exact KZ.out | exact KS.out _ (by repeat (first | exact Fr.refl NoF _ | apply Fr.drew | apply Fr.drewN | apply Fr.alloc))) (fun hS => ?_)
              clear hK K
              try simp only [Act.put, List.setIfInBounds_toArray, List.set_cons_zero, List.set_cons_succ]
              refine wpAnyH_ready (rs := [10]) (by kernel_rfl) (by simp) ?_
              refine AllReadyH.cons rfl (fun K hK => ?_) ?_
              · refine appSB (base := wA.heap.size) EIro rfl (.tmp 91) (.tmp 93) rfl (by rfl) (by rfl) (Nat.le_trans HSZ.out (Fr.size (F := NoF) (w := wF) (by repeat (first | exact Fr.refl NoF _ | apply Fr.drew | apply Fr.drewN | apply Fr.alloc)))) (own_keep (HLS2.out.own ci hc) (by repeat (first | exact Fr.refl NoF _ | apply Fr.drew | apply Fr.drewN | apply Fr.alloc)) (fun _ _ q => q)) (SlC.ofOwn (own_new (w0 := wF) (Fr.size (F := NoF) (by repeat (first | exact Fr.refl NoF _ | apply Fr.drew | apply Fr.drewN | apply Fr.alloc))) #[_, _, _] 40 3 1 _ rfl rfl (by unfold maxLen; omega)) (by intro u hu; simp at hu; rcases hu with rfl | rfl | rfl <;> rfl)) (by have := HLN.out; unfold maxLen; omega) (by have := HLN.out; omega) ?_; intro v6 w6 hown6 hf6 hob6; have HO6 := Lib.hid hown6; have HF6 := Lib.hid hf6; have HB6 := Lib.hid hob6; have hkz := KF.out _ _ (by repeat (first | exact Fr.refl NoF _ | apply Fr.drew | apply Fr.drewN | apply Fr.alloc)) hf6; have KZ := Lib.hid hkz; clear hown6 hf6 hob6 hkz
                refine hK.out _ _ (by first | exact KZ.out | exact KS.out _ (by repeat (first | exact Fr.refl NoF _ | apply Fr.drew | apply Fr.drewN | apply Fr.alloc))) (fun hS => ?_)
                clear hK K
                try simp only [Act.put, List.setIfInBounds_toArray, List.set_cons_zero, List.set_cons_succ]
                refine wpAnyH_take (i := 11) (v := ?_) rfl (by decide +kernel) (by decide +kernel) (by decide +kernel) (fun _ _ _ h => h) (Or.inl ⟨by rfl, ?_⟩) hS ?_
                rotate_left
                · intro wS hSw; (try dsimp only at hSw); go_simp
                  try with_reducible rfl
                try simp only [Act.put, List.setIfInBounds_toArray, List.set_cons_zero, List.set_cons_succ]
                refine wpAnyH_done (by kernel_rfl) ?_ _
                show wpList _ _ _ _ _ _
                have h1c : ∀ u ∈ flatK (opsK (l.drop 4) j ci) ++ #[Value.int .i64 (k : Nat), .int .u32 (iv : Nat), .int .u64 (zv : Nat)].toList, u.oneCell' = true := fun u hu => by
                  rcases List.mem_append.1 hu with q | q
                  · exact flatK_one _ u q
                  · simp only [List.mem_cons, List.not_mem_nil, or_false] at q
                    rcases q with rfl | rfl | rfl <;> rfl
                obtain ⟨a6, c6, rfl, _, _⟩ := (SlC.ofOwn HO6.out h1c).shape
                clear h1c
                have fz : Fr NoF wF (wF.alloc (.cells #[.int .i64 (k : Nat), .int .u32 (iv : Nat), .int .u64 (zv : Nat)] 40)) := (Fr.refl NoF wF).alloc _
                have hL5 := HLS2.out.fr0 fz
                have hb6 := hL5.blk.fr HF6.out (fun q => hL5.nb ci hc _ q rfl)
                have PUT := Lib.hid (hL5.put hc (o := ⟨k, iv, zv⟩) HO6.out HF6.out HB6.out)
                have hA6 := (HAR2.out.fr fz id).fr HF6.out (fun q => by have := ownBlock_own (HLS2.out.own ci hc) _ q; omega)
                have fs : Fr (fun i => i = bM) w6 (w6.setCell ⟨bM, ci, none⟩ (.slice a6 ((opsK (l.drop 4) j ci).length + 1) c6)) := fr_res (Fr.refl _ _) ci _
                have PAR := Lib.hid (hA6.fr fs (fun q => nAM q))
                have PFR : Hid (Fr NoF wB (w6.setCell ⟨bM, ci, none⟩ (.slice a6 ((opsK (l.drop 4) j ci).length + 1) c6))) := Fr.setCell (Fr.trans (HFR2.out.trans fz (fun _ q => q.elim)) HF6.out (fun i q => .inr (Nat.le_trans HF.out.size (ownBlock_own (HLS2.out.own ci hc) i q)))) (p := ⟨bM, ci, none⟩) (.inr (iM)) _
                have PSZ := Lib.hid (Nat.le_trans (Nat.le_trans (Nat.le_trans HSZ.out fz.size) HF6.out.size) fs.size)
                have k1 := KZ.out.2.1
                have k2 := hb6.frozen ci
                have k3 := hb6.lt
                clear fz hL5 hb6 hA6 fs HO6 HF6 HB6 KZ KS KF c0 c1 d0 d1 d2 HLS2 HFR2 HAR2
                have w33 := HW33.out
                go_wp2
                go_roundw
                case rel => exact ⟨j + 1, by omega, by go_num, by have := HTJ.out; congr 1; omega, ⟨_, by
                  show L3T _ _ _ _ _ (upd (opsK (l.drop 4) j) (whoK (l.drop 4) j) (opsK (l.drop 4) j (whoK (l.drop 4) j) ++ [opK (l.drop 4) j]))
                  rw [EW.out.1, EW.out.2]
                  exact PUT.out⟩, PAR.out, PFR.out, PSZ.out⟩
                case measure => simp [intOf]; omega
              exact AllReadyH.nil
            exact AllReadyH.nil
      · obtain rfl : j = n := by omega
        obtain ⟨wL, hwL⟩ : ∃ x, x = wr := ⟨_, rfl⟩
        subst hwL
        have hszL := hf.size
        have HLS := Lib.hid hL
        have HFR := Lib.hid hf
        have hlA := hAr.lt
        have hlM := hL.blk.lt
        have hvL : Hid (∀ c, c < 3 → ∀ i, (vs c).ownBlock = some i → wA.heap.size ≤ i ∧ i < wL.heap.size) := Lib.hid fun c hc i q => World.ownsRow.lt (hL.own c hc) i q
        have P0 : Hid (∃ pv, OwK .i64 wL.heap.size 3 wL pv ((l.drop 4).take 0) ∧ Blk wL bA 5 (upd vA 4 pv)) := Lib.hid ⟨.slice none 0 0, OwK.nil _ _ _ _, by
          rw [show upd vA 4 (.slice none 0 0) = vA from by funext i; by_cases q : i = 4; (subst q; rw [upd_same]; exact HVA.out.2.2.2.2.symm); (exact upd_other _ _ q)]; exact hAr⟩
        have hcase : ¬ 4 + 3 * j + 2 < l.length ∨ (4 + 3 * j + 2 < l.length ∧ j = 60) := by have := hN.out; omega
        have hjl : j ≤ 60 := by have := hN.out; omega
        clear hL hf hAr HAA hlt HN
        rcases hcase with q | ⟨q, q60⟩
        all_goals
          have w31 : IntKind.i64.wrap (((4 + 3 * j : Nat) : Int) + 2) = ((4 + 3 * j + 2 : Nat) : Int) := IntWalk.i64_in _ (by omega)
          go_wp2_with fail
          go_loopw [11] (fun s11 wr => ∃ k : Nat, k ≤ l.length - 4 ∧ s11 = .int .i64 ((4 + k : Nat) : Int) ∧ (∃ pv, OwK .i64 wL.heap.size 3 wr pv ((l.drop 4).take k) ∧ Blk wr bA 5 (upd vA 4 pv)) ∧ L3T 40 wr bM wA.heap.size vs (opsK (l.drop 4) j) ∧ Fr NoF wB wr ∧ wL.heap.size ≤ wr.heap.size) (fun s11 _ => l.length - (intOf s11).toNat)
          case atStart => exact ⟨0, Nat.zero_le _, rfl, P0.out, HLS.out, HFR.out, Nat.le_refl _⟩
          case round =>
            obtain ⟨k, hk, rfl, ⟨pv, hO, hB⟩, hL2, hf2, hsz2⟩ := hrel
            by_cases hlt : 4 + k < l.length
            · obtain ⟨bb, o, c', e1, _, _, h3, h4⟩ := H.out.at (i := 4 + k) hlt
              simp only [Value.slice.injEq] at e1
              obtain ⟨rfl, _, rfl⟩ := e1
              rw [← hf2.cell (p := ⟨bb, o + (4 + k), none⟩) h3 id] at h4
              have bx := HB.out _ (List.getElem_mem hlt)
              have EX : Hid ((l.drop 4).take (k + 1) = (l.drop 4).take k ++ [l[4 + k]]) := Lib.hid (by rw [List.take_add_one, List.getElem?_drop, List.getElem?_eq_getElem hlt]; rfl)
              generalize l[4 + k] = x at *
              obtain ⟨u, hu⟩ : ∃ u, u = 4 + k := ⟨_, rfl⟩
              rw [← hu] at h4 hlt
              rw [← hu]
              have HU := Lib.hid hu
              have u400 : u < 400 := by omega
              have w33 : IntKind.i64.wrap ((u : Int) + 1) = (u : Int) + 1 := IntWalk.i64_in _ (by omega)
              have HW33 := Lib.hid w33
              have WX : Hid (IntKind.i64.wrap (x : Int) = (x : Int)) := Lib.hid (IntWalk.i64_in _ (by omega))
              have hbL : bb < wr.heap.size := Nat.lt_of_lt_of_le h3 hf2.size
              have HOW := Lib.hid hO
              have HB2 := Lib.hid hB
              have HL2 := Lib.hid hL2
              have HF2 := Lib.hid hf2
              have HSZ := Lib.hid hsz2
              clear w33 hu hO hB hL2 hf2 hsz2 HLS HFR P0
              go_upto_region 18 with fail
              obtain ⟨wE, hwE⟩ : ∃ x, x = wr := ⟨_, rfl⟩
              subst hwE
              have fd : Fr NoF wE wE.drew := (Fr.refl NoF wE).drew
              have hbF : bb < wE.drew.heap.size := hbL
              have hbW : bb < wB.heap.size := h3
              have hszW : wB.heap.size ≤ wL.heap.size := by omega
              have c1 : wE.drew.cell? ⟨bb, o + u, none⟩ = some (.int .u8 (x : Nat)) := h4
              have HOW := Lib.hid (OwK.base2 HOW.out fd)
              have HB2 := Lib.hid (HB2.out.fr fd id)
              have HL2 := Lib.hid (HL2.out.fr0 fd)
              have HF2 := Lib.hid (HF2.out.trans fd (fun _ q => q.elim))
              have HSZ := Lib.hid (Nat.le_trans HSZ.out fd.size)
              clear fd h3 h4
              refine region_tail (fun w' => w'.cell? ⟨bA, 4, none⟩ = some pv ∧ w'.cell? ⟨bb, o + u, none⟩ = some (.int .u8 (x : Nat))) 10 (by kernel_rfl) rfl rfl (by kernel_rfl) ?_
              simp only [List.take_succ_cons, List.take_zero]
              generalize wE.drew = wF at *
              have HLN : Hid (((l.drop 4).take k).length ≤ 400) := Lib.hid (by rw [List.length_take, List.length_drop]; omega)
              have c0 := HB2.out.cell (i := 4) (by omega)
              rw [upd_same] at c0
              have KF : Hid (∀ W W', Fr NoF wF W → Fr (fun b => pv.ownBlock = some b) W W' → (fun w' => w'.cell? ⟨bA, 4, none⟩ = some pv ∧ w'.cell? ⟨bb, o + u, none⟩ = some (.int .u8 (x : Nat))) W') := Lib.hid fun W W' f f2 => by
                have hA7 := (HB2.out.fr f id).fr f2 (fun q => by have := HOW.out.base _ q; omega)
                have hb7 := (f2.cell (p := ⟨bb, o + u, none⟩) (Nat.lt_of_lt_of_le hbF f.size) (fun q => absurd (HOW.out.base _ q) (Nat.not_le.2 (Nat.lt_of_lt_of_le hbW hszW)))).trans ((f.cell (p := ⟨bb, o + u, none⟩) hbF id).trans c1)
                exact ⟨by rw [← upd_same vA 4 pv]; exact hA7.cell (i := 4) (by omega), hb7⟩
              have KS : Hid (∀ W, Fr NoF wF W → (fun w' => w'.cell? ⟨bA, 4, none⟩ = some pv ∧ w'.cell? ⟨bb, o + u, none⟩ = some (.int .u8 (x : Nat))) W) := Lib.hid fun W f => KF.out W W f (Fr.refl _ _)
              have hS : (fun w' => w'.cell? ⟨bA, 4, none⟩ = some pv ∧ w'.cell? ⟨bb, o + u, none⟩ = some (.int .u8 (x : Nat))) wF := ⟨c0, c1⟩
              refine wpAnyH_take (i := 0) (v := ?_) rfl (by decide +kernel) (by decide +kernel) (by decide +kernel) (fun _ _ _ h => h) (Or.inl ⟨by rfl, ?_⟩) hS ?_
              rotate_left
              · intro wS hSw; (try dsimp only at hSw); go_simp
                try with_reducible rfl
              try simp only [Act.put, List.setIfInBounds_toArray, List.set_cons_zero, List.set_cons_succ]
              refine wpAnyH_take (i := 1) (v := ?_) rfl (by decide +kernel) (by decide +kernel) (by decide +kernel) (fun _ _ _ h => h) (Or.inl ⟨by rfl, ?_⟩) hS ?_
              rotate_left
              · intro wS hSw; (try dsimp only at hSw); go_simp
                try with_reducible rfl
              try simp only [Act.put, List.setIfInBounds_toArray, List.set_cons_zero, List.set_cons_succ]
              refine wpAnyH_take (i := 2) (v := ?_) rfl (by decide +kernel) (by decide +kernel) (by decide +kernel) (fun _ _ _ h => h) (Or.inl ⟨by rfl, ?_⟩) hS ?_
              rotate_left
              · intro wS hSw; (try dsimp only at hSw); go_simp
                try with_reducible rfl
              try simp only [Act.put, List.setIfInBounds_toArray, List.set_cons_zero, List.set_cons_succ]
              refine wpAnyH_take (i := 3) (v := ?_) rfl (by decide +kernel) (by decide +kernel) (by decide +kernel) (fun _ _ _ h => h) (Or.inl ⟨by rfl, ?_⟩) hS ?_
              rotate_left
              · intro wS hSw; (try dsimp only at hSw); go_simp
                try with_reducible rfl
              try simp only [Act.put, List.setIfInBounds_toArray, List.set_cons_zero, List.set_cons_succ]
              refine wpAnyH_take (i := 4) (v := ?_) rfl (by decide +kernel) (by decide +kernel) (by decide +kernel) (fun _ _ _ h => h) (Or.inl ⟨by rfl, ?_⟩) hS ?_
              rotate_left
              · intro wS hSw; (try dsimp only at hSw); go_simp
                try with_reducible rfl
              try simp only [Act.put, List.setIfInBounds_toArray, List.set_cons_zero, List.set_cons_succ]
              refine wpAnyH_take (i := 5) (v := ?_) rfl (by decide +kernel) (by decide +kernel) (by decide +kernel) (fun _ _ _ h => h) (Or.inl ⟨by rfl, ?_⟩) hS ?_
              rotate_left
              · intro wS hSw; (try dsimp only at hSw); go_simp
                try with_reducible rfl
              try simp only [Act.put, List.setIfInBounds_toArray, List.set_cons_zero, List.set_cons_succ]
              refine wpAnyH_take (i := 6) (v := ?_) rfl (by decide +kernel) (by decide +kernel) (by decide +kernel) (fun _ _ _ h => h) (Or.inl ⟨by rfl, ?_⟩) hS ?_
              rotate_left
              · intro wS hSw; (try dsimp only at hSw); go_simp
                try with_reducible rfl
              try simp only [Act.put, List.setIfInBounds_toArray, List.set_cons_zero, List.set_cons_succ]
              rw [WX.out]
              clear hS
              refine wpAnyH_ready (rs := [7]) (by kernel_rfl) (by simp) ?_
              refine AllReadyH.cons rfl (fun K hK => ?_) ?_
              · go_simp
                refine hK.out _ _ (by first | exact KZ.out | exact KS.out _ (by repeat (first | exact Fr.refl NoF _ | apply Fr.drew | apply Fr.drewN | apply Fr.alloc))) (fun hS => ?_)
                clear hK K
                try simp only [Act.put, List.setIfInBounds_toArray, List.set_cons_zero, List.set_cons_succ]
                refine wpAnyH_ready (rs := [8]) (by kernel_rfl) (by simp) ?_
                refine AllReadyH.cons rfl (fun K hK => ?_) ?_
                · refine appSB (base := wL.heap.size) EIi rfl (.tmp 105) (.tmp 111) rfl (by rfl) (by rfl) (Nat.le_trans HSZ.out (Fr.size (F := NoF) (w := wF) (by repeat (first | exact Fr.refl NoF _ | apply Fr.drew | apply Fr.drewN | apply Fr.alloc)))) (own_keep HOW.out (by repeat (first | exact Fr.refl NoF _ | apply Fr.drew | apply Fr.drewN | apply Fr.alloc)) (fun _ _ q => q)) (SlC.ofOwn (own_new (w0 := wF) (Fr.size (F := NoF) (by repeat (first | exact Fr.refl NoF _ | apply Fr.drew | apply Fr.drewN | apply Fr.alloc))) #[_] 3 1 1 _ rfl rfl (by unfold maxLen; omega)) (by intro u hu; simp at hu; subst hu; rfl)) (by have := HLN.out; unfold maxLen; omega) (by have := HLN.out; omega) ?_; intro v6 w6 hown6 hf6 hob6; have HO6 := Lib.hid hown6; have HF6 := Lib.hid hf6; have HB6 := Lib.hid hob6; have hkz := KF.out _ _ (by repeat (first | exact Fr.refl NoF _ | apply Fr.drew | apply Fr.drewN | apply Fr.alloc)) hf6; have KZ := Lib.hid hkz; clear hown6 hf6 hob6 hkz
                  refine hK.out _ _ (by first | exact KZ.out | exact KS.out _ (by repeat (first | exact Fr.refl NoF _ | apply Fr.drew | apply Fr.drewN | apply Fr.alloc))) (fun hS => ?_)
                  clear hK K
                  try simp only [Act.put, List.setIfInBounds_toArray, List.set_cons_zero, List.set_cons_succ]
                  refine wpAnyH_take (i := 9) (v := ?_) rfl (by decide +kernel) (by decide +kernel) (by decide +kernel) (fun _ _ _ h => h) (Or.inl ⟨by rfl, ?_⟩) hS ?_
                  rotate_left
                  · intro wS hSw; (try dsimp only at hSw); go_simp
                    try with_reducible rfl
                  try simp only [Act.put, List.setIfInBounds_toArray, List.set_cons_zero, List.set_cons_succ]
                  refine wpAnyH_done (by kernel_rfl) ?_ _
                  show wpList _ _ _ _ _ _
                  have h1c : ∀ y ∈ (((l.drop 4).take k).map fun (x : Nat) => Value.int .i64 (x : Int)) ++ #[Value.int .i64 (x : Nat)].toList, y.oneCell' = true := fun y hy => by
                    rcases List.mem_append.1 hy with q | q
                    · obtain ⟨z, _, rfl⟩ := List.mem_map.1 q; rfl
                    · simp only [List.mem_cons, List.not_mem_nil, or_false] at q
                      subst q; rfl
                  have eK : ((l.drop 4).take k).length = k := by rw [List.length_take, List.length_drop]; omega
                  rw [eK] at HO6
                  obtain ⟨a6, c6, rfl, _, _⟩ := (SlC.ofOwn HO6.out h1c).shape
                  clear h1c
                  have fz : Fr NoF wF (wF.alloc (.cells #[.int .i64 (x : Nat)] 3)) := (Fr.refl NoF wF).alloc _
                  have noA : ¬ pv.ownBlock = some bA := fun q => by have := HOW.out.base _ q; omega
                  have noM : ¬ pv.ownBlock = some bM := fun q => by have := HOW.out.base _ q; omega
                  have hB6 := (HB2.out.fr fz id).fr HF6.out (fun q => noA q)
                  have hB7 := hB6.set 4 (.slice a6 (k + 1) c6)
                  rw [show upd (upd vA 4 pv) 4 (Value.slice a6 (k + 1) c6) = upd vA 4 (Value.slice a6 (k + 1) c6) from by funext i; by_cases q : i = 4; (subst q; rw [upd_same, upd_same]); (rw [upd_other _ _ q, upd_other _ _ q, upd_other _ _ q])] at hB7
                  have fs : Fr (fun i => i = bA) w6 (w6.setCell ⟨bA, 4, none⟩ (.slice a6 (k + 1) c6)) := fr_res (Fr.refl _ _) 4 _
                  have PL := Lib.hid (((HL2.out.fr0 fz).frS HF6.out (fun q => noM q) (fun c hc i q q2 => by have := (hvL.out c hc i q).2; have := HOW.out.base _ q2; omega)).frS fs (fun q => nAM q.symm) (fun c hc i q (q2 : i = bA) => by have := (hvL.out c hc i q).1; omega))
                  have PB := Lib.hid hB7
                  have PO : Hid (OwK .i64 wL.heap.size 3 (w6.setCell ⟨bA, 4, none⟩ (.slice a6 (k + 1) c6)) (.slice a6 (k + 1) c6) ((l.drop 4).take (k + 1))) := Lib.hid (by
                    unfold OwK
                    rw [EX.out, List.length_append, List.map_append, eK]
                    exact own_keep HO6.out fs (fun i q (q2 : i = bA) => by have := ownBlock_own HO6.out i q; omega))
                  have PF : Hid (Fr NoF wB (w6.setCell ⟨bA, 4, none⟩ (.slice a6 (k + 1) c6))) := Lib.hid (Fr.setCell (Fr.trans (HF2.out.trans fz (fun _ q => q.elim)) HF6.out (fun i q => .inr (Nat.le_trans hszW (HOW.out.base i q)))) (p := ⟨bA, 4, none⟩) (.inr (iA)) _)
                  have PSZ := Lib.hid (Nat.le_trans (Nat.le_trans (Nat.le_trans HSZ.out fz.size) HF6.out.size) fs.size)
                  have k1 := KZ.out.1
                  have k2 := hB6.frozen 4
                  have k3 := hB6.lt
                  clear fz hB6 hB7 fs HO6 HF6 HB6 KZ KS KF c0 c1 HB2 HOW HL2 HF2 HSZ
                  have w33 := HW33.out
                  go_wp2
                  go_roundw
                  case rel => exact ⟨k + 1, by have := HU.out; omega, by have := HU.out; congr 1; omega, ⟨_, PO.out, PB.out⟩, PL.out, PF.out, PSZ.out⟩
                  case measure => simp [intOf]; omega
                exact AllReadyH.nil
              exact AllReadyH.nil
            · have e4 : (l.drop 4).take k = l.drop 4 := List.take_of_length_le (by rw [List.length_drop]; omega)
              rw [e4] at hO
              have HO := Lib.hid hO
              have HL3 := Lib.hid hL2
              have HF3 := Lib.hid hf2
              have HA3 := Lib.hid hB
              clear hO hL2 hf2 hB e4
              have HEJ : Hid (min ((l.drop 4).length / 3) 60 = j) := Lib.hid (by have := hN.out; rw [List.length_drop]; omega)
              generalize hxl4 : l.drop 4 = l4 at *
              have HXl4 := Lib.hid hxl4
              clear hxl4
              have c0 := HA3.out.cell (i := 0) (by omega)
              have c1 := HA3.out.cell (i := 1) (by omega)
              have c2 := HA3.out.cell (i := 2) (by omega)
              have c3 := HA3.out.cell (i := 3) (by omega)
              have c4 := HA3.out.cell (i := 4) (by omega)
              rw [upd_other _ _ (by decide), HVA.out.1] at c0
              rw [upd_other _ _ (by decide), HVA.out.2.1] at c1
              rw [upd_other _ _ (by decide), HVA.out.2.2.1] at c2
              rw [upd_other _ _ (by decide), HVA.out.2.2.2.1] at c3
              rw [upd_same] at c4
              obtain ⟨a5, c5, rfl, _, _⟩ := HO.out.sl.shape
              have hR := HR0.out.fr HF3.out id
              have t0 := hR.frozen 0
              have t1 := hR.frozen 1
              have t2 := hR.frozen 2
              have t3 := hR.frozen 3
              have t4 := hR.frozen 4
              have r0 := hR.cell (i := 0) (by omega)
              have r1 := hR.cell (i := 1) (by omega)
              have r2 := hR.cell (i := 2) (by omega)
              have r3 := hR.cell (i := 3) (by omega)
              have r4 := hR.cell (i := 4) (by omega)
              have lR := hR.lt
              simp only [zScr] at r0 r1 r2 r3 r4
              have g9 : Fr (fun i => i = w.heap.size) wr (((((wr.setCell ⟨w.heap.size, 0, none⟩ (.int .i64 (1 + (m0 : Int)))).setCell ⟨w.heap.size, 1, none⟩ (.int .i64 (1 + (m1 : Int)))).setCell ⟨w.heap.size, 2, none⟩ (.string (polZ m2))).setCell ⟨w.heap.size, 3, none⟩ (.slice (some ⟨bM, 0, none⟩) 3 3)).setCell ⟨w.heap.size, 4, none⟩ (.slice a5 l4.length c5)) := by
                repeat (first | exact Fr.refl _ _ | apply fr_res)
              have lW : w.heap.size < wB.heap.size := HR0.out.lt
              have K1 := Lib.hid (HL3.out.frS g9 (fun q => by omega) (fun c hc i q (q2 : i = w.heap.size) => by have := (hvL.out c hc i q).1; omega))
              have K2 := Lib.hid (HO.out.sl.fr g9 (fun b q (e : b = w.heap.size) => by have := HO.out.base b q; omega))
              have K3 : Hid (∀ b, (Value.slice a5 l4.length c5).ownBlock = some b → w.heap.size ≤ b) := fun b q => by have := HO.out.base b q; omega
              have K4 : Hid (Fr NoF w _) := Lib.hid (Fr.trans (F0.out.trans HF3.out (fun _ q => q.elim)) g9 (fun i (q : i = w.heap.size) => .inr (by omega)))
              have HX := Lib.hid ((((((hR.set 0 (.int .i64 (1 + (m0 : Int)))).set 1 (.int .i64 (1 + (m1 : Int)))).set 2 (.string (polZ m2))).set 3 (.slice (some ⟨bM, 0, none⟩) 3 3)).set 4 (.slice a5 l4.length c5)))
              clear g9 hR
              go_wp2_with fail
              (try simp only [Exit.inBlock, Exit.then])
              refine bodyPost_ret (res_blk Tryd.results6 _ _ HX.out rfl Tryd.underlying30 rfl (by kernel_rfl)) rfl ?_
              have ql4 := HXl4.out
              subst ql4
              have qm0 := HXm0.out
              subst qm0
              have qm1 := HXm1.out
              subst qm1
              have qm2 := HXm2.out
              subst qm2
              have qy0 := HXy0.out
              subst qy0
              have qy1 := HXy1.out
              subst qy1
              have qy2 := HXy2.out
              subst qy2
              exact ⟨bM, wA.heap.size, _, vs, rfl, HEJ.out.symm ▸ K1.out, Nat.le_trans (Nat.le_of_lt lW) iM, Nat.le_trans (Nat.le_of_lt lW) (HF.out.size), K2.out, K3.out, K4.out⟩
end Go.Proofs.YtaebogmgjimkfaaDoor

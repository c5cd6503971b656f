/-
  Script's calls: three lists of calls, out of triples of bytes.
-/
import Derived.Test.YtaebogmgjimkfaaDoorScrB
import Derived.RegionTactic
import Derived.Deep.RegionLaw
import Derived.Deep.RegionHeld3
import Derived.Test.YtaebogmgjimkfaaDoorTail
namespace Go.Proofs.YtaebogmgjimkfaaDoor
open Go.RowKit Go.Maps
set_option linter.unusedVariables false
set_option linter.unusedSimpArgs false
/-- A call: its kind, id and v. -/
structure OpK where
  k : Nat
  id : Nat
  v : Nat
def OpK.cells (o : OpK) : List Value := [.int .i64 (o.k : Nat), .int .u32 (o.id : Nat), .int .u64 (o.v : Nat)]
def flatK (l : List OpK) : List Value := l.flatMap OpK.cells
theorem flatK_snoc (l : List OpK) (o : OpK) : flatK (l ++ [o]) = flatK l ++ o.cells := by simp [flatK]
theorem flatK_one (l : List OpK) : ∀ u ∈ flatK l, u.oneCell' = true := by
  intro u hu
  obtain ⟨o, _, h⟩ := List.mem_flatMap.1 hu
  simp only [OpK.cells, List.mem_cons, List.not_mem_nil, or_false] at h
  rcases h with rfl | rfl | rfl <;> rfl
theorem EImo : EI Tryd.prog 33 38 3 24 := EI.mk' (z := .agg #[.int .i64 0, .int .u32 0, .int .u64 0]) Tryd.underlying33 (by kernel_rfl) rfl (by decide)
/-- Three lists of calls, in blocks of their own, from base on. -/
structure L3T (ty : TypeId) (w : World) (b base : Nat) (vs : Nat → Value) (os : Nat → List OpK) : Prop where
  blk : Blk w b 3 vs
  own : ∀ c, c < 3 → w.ownsRow base ty 3 (vs c) (os c).length (flatK (os c))
  dis : ∀ c d, c < 3 → d < 3 → ¬ c = d → ∀ i, (vs c).ownBlock = some i → ¬ (vs d).ownBlock = some i
  nb : ∀ c, c < 3 → ∀ i, (vs c).ownBlock = some i → ¬ i = b
section
variable {ty : TypeId} {w w' w0 : World} {b base : Nat} {vs : Nat → Value} {os : Nat → List OpK}
theorem L3T.fr0 (h : L3T ty w b base vs os) (f : Fr NoF w w') : L3T ty w' b base vs os :=
  ⟨h.blk.fr f id, fun c hc => own_keep (h.own c hc) f (fun _ _ q => q), h.dis, h.nb⟩
theorem L3T.fr (h : L3T ty w b base vs os) {G : Nat → Prop} (f : Fr G w w') (hb : ¬ G b) (hG : ∀ i, base ≤ i → ¬ G i) : L3T ty w' b base vs os :=
  ⟨h.blk.fr f hb, fun c hc => own_keep (h.own c hc) f (fun i q => hG i (ownBlock_own (h.own c hc) i q)), h.dis, h.nb⟩
/-- One list more than it was. -/
theorem L3T.put (h : L3T ty w b base vs os) {c : Nat} (hc : c < 3) {o : OpK} {v' : Value} (h1 : w'.ownsRow base ty 3 v' ((os c).length + 1) (flatK (os c) ++ o.cells)) (h2 : Fr (fun i => (vs c).ownBlock = some i) w w') (h3 : ∀ i, v'.ownBlock = some i → (vs c).ownBlock = some i ∨ w.heap.size ≤ i) :
    L3T ty (w'.setCell ⟨b, c, none⟩ v') b base (upd vs c v') (upd os c (os c ++ [o])) := by
  have hb : Blk w' b 3 vs := h.blk.fr h2 (fun q => h.nb c hc b q rfl)
  have hlt := h.blk.lt
  have fs : Fr (fun i => i = b) w' (w'.setCell ⟨b, c, none⟩ v') := (Fr.refl (fun i => i = b) w').setCell (p := ⟨b, c, none⟩) (.inl rfl) _
  have nb' : ∀ i, v'.ownBlock = some i → ¬ i = b := fun i q => by
    rcases h3 i q with e | e
    · exact h.nb c hc i e
    · omega
  refine ⟨hb.set c v', fun d hd => ?_, fun d e hd he hde i q1 q2 => ?_, fun d hd i q => ?_⟩
  · by_cases e : d = c
    · subst e
      rw [upd_same, upd_same, flatK_snoc, List.length_append]
      exact own_keep h1 fs (fun i q => nb' i q)
    · rw [upd_other _ _ e, upd_other _ _ e]
      exact own_keep (own_keep (h.own d hd) h2 (fun i q => h.dis d c hd hc e i q)) fs (fun i q => h.nb d hd i q)
  · by_cases c1 : d = c
    · subst c1
      have c2 : ¬ e = d := fun q => hde q.symm
      rw [upd_same] at q1
      rw [upd_other _ _ c2] at q2
      rcases h3 i q1 with z | z
      · exact h.dis d e hd he hde i z q2
      · have := (World.ownsRow.lt (h.own e he) i q2).2; omega
    · rw [upd_other _ _ c1] at q1
      by_cases c2 : e = c
      · subst c2
        rw [upd_same] at q2
        rcases h3 i q2 with z | z
        · exact h.dis d e hd he hde i q1 z
        · have := (World.ownsRow.lt (h.own d hd) i q1).2; omega
      · rw [upd_other _ _ c2] at q2
        exact h.dis d e hd he hde i q1 q2
  · by_cases c1 : d = c
    · subst c1; rw [upd_same] at q; exact nb' i q
    · rw [upd_other _ _ c1] at q; exact h.nb d hd i q
theorem L3T.new (h : Blk w b 3 (fun _ => .slice none 0 0)) (base : Nat) : L3T ty w b base (fun _ => .slice none 0 0) (fun _ => []) :=
  ⟨h, fun c _ => World.ownsRow_nil _ _ _ _, fun c d _ _ _ i q => (by cases q), fun c _ i q => (by cases q)⟩
end
abbrev L3 := L3T 38
/-- The call that three bytes are. -/
def opK (l : List Nat) (i : Nat) : OpK := ⟨kindZ (l.getD (3 * i) 0 % 16), idOf (kindZ (l.getD (3 * i) 0 % 16)) (l.getD (3 * i + 1) 0), vOf (kindZ (l.getD (3 * i) 0 % 16)) (l.getD (3 * i + 2) 0)⟩
def whoK (l : List Nat) (i : Nat) : Nat := l.getD (3 * i) 0 / 16 % 3
/-- Each client's calls, of the first n. -/
def opsK (l : List Nat) : Nat → Nat → List OpK
  | 0 => fun _ => []
  | n + 1 => upd (opsK l n) (whoK l n) (opsK l n (whoK l n) ++ [opK l n])
theorem opsK_len (l : List Nat) (n c : Nat) : (opsK l n c).length ≤ n := by
  induction n with
  | zero => exact Nat.le_refl _
  | succ n ih =>
    show (upd (opsK l n) (whoK l n) _ c).length ≤ n + 1
    by_cases e : c = whoK l n
    · subst e; rw [upd_same, List.length_append]; exact Nat.succ_le_succ ih
    · rw [upd_other _ _ e]; omega
theorem kindZ_lt (j : Nat) : kindZ j < 8 := by
  by_cases h : j < 16
  · have : ∀ j, j < 16 → kindZ j < 8 := by decide
    exact this j h
  · unfold kindZ
    rw [List.getD_eq_getElem?_getD, List.getElem?_eq_none (by simpa using h)]
    decide
set_option maxHeartbeats 4000000 in
theorem scr_calls {w : World} (hT : Tabs w) {v : Value} {l : List Nat} (h : SlK .u8 w v l) (hb : ∀ x ∈ l, x < 256) (hl : l.length ≤ 400) :
    Calls Tryd.prog 17 #[v] w fun e w' => ∃ vs, e = .returned (.slice (some ⟨w.heap.size, 0, none⟩) 3 3) ∧ L3 w' w.heap.size w.heap.size vs (opsK l (min (l.length / 3) 60)) ∧ Fr NoF w w' := by
  obtain ⟨a, c, rfl, h1, h2⟩ := h.shape
  unfold maxLen at h2
  obtain ⟨i0, hi0, hz0, hz1, hz2⟩ := info_parts' (P := Tryd.prog) (e := 33) (z := .slice none 0 0) (s := 1) (b := 24) (by kernel_rfl)
  have mk1 : ∀ w : World, (Instr.makeSlice 23 (.int .i64 3) (.int .i64 3)).run Tryd.prog w =
      .ok (.slice (some ⟨w.heap.size, 0, none⟩) 3 3) (w.alloc (.cells (madeCells #[.slice none 0 0] 3) 33)) := by
    intro w
    have := run_make (P := Tryd.prog) w 23 33 i0 _ Tryd.underlying23 hi0 hz0 .i64 .i64 3 3 (by omega) (Int.le_refl _) (by rw [hz2]; omega) (by omega)
    rw [hz1] at this
    exact this
  have hB0 : Blk (w.alloc (.cells (madeCells #[.slice none 0 0] 3) 33)) w.heap.size 3 (fun _ => .slice none 0 0) :=
    Blk.new _ _ _ _ _ _ rfl (by simp [madeCells]) (fun i hi => by rw [made_at hi]; simp [Nat.mod_one])
  have HL0 := Lib.hid (L3T.new (ty := 38) hB0 w.heap.size)
  have H := Lib.hid h
  have HB := Lib.hid hb
  have HT := Lib.hid hT
  have HF0 : Hid (Fr NoF w (w.alloc (.cells (madeCells #[.slice none 0 0] 3) 33))) := (Fr.refl NoF w).alloc _
  have hN : Hid (min (l.length / 3) 60 ≤ 60 ∧ min (l.length / 3) 60 * 3 ≤ l.length) := ⟨by omega, by omega⟩
  have eN : ((l.length : Int) / 3 = ((min (l.length / 3) 60 : Nat) : Int) ∧ ((min (l.length / 3) 60 : Nat) : Int) ≤ 60) ∨ (¬ (l.length : Int) / 3 ≤ 60 ∧ min (l.length / 3) 60 = 60) := by omega
  generalize min (l.length / 3) 60 = n at *
  clear h hb hi0 hz0 hz1 hz2 hB0 hT
  go_enter Tryd.func17, Tryd.ntmps17
  rcases eN with ⟨e1, e2⟩ | ⟨e1, e2⟩
  all_goals go_wp2_with fail
  all_goals try rw [show (60 : Int) = (n : Int) from by omega]
  all_goals
    have E2 := Lib.hid e2
    clear e1 e2
    go_loopw [14] (fun i wr => ∃ j : Nat, j ≤ n ∧ i = .int .i64 j ∧ (∃ vs, L3 wr w.heap.size w.heap.size vs (opsK l j)) ∧ Fr NoF w wr) (fun i _ => n - (intOf i).toNat)
    case atStart => exact ⟨0, Nat.zero_le _, rfl, ⟨_, HL0.out⟩, HF0.out⟩
    case round =>
      obtain ⟨j, hj, rfl, ⟨vs, hL⟩, hf⟩ := hrel
      by_cases hlt : j < n
      · have hj3 : j * 3 + 2 < l.length := by have := hN.out.2; omega
        obtain ⟨bb, o, c', e1, _, _, h3, h4⟩ := H.out.at (i := 3 * j) (by omega)
        simp only [Value.slice.injEq] at e1
        obtain ⟨rfl, _, rfl⟩ := e1
        obtain ⟨bb1, o1, c1, e1, _, _, _, h5⟩ := H.out.at (i := 3 * j + 1) (by omega)
        simp only [Value.slice.injEq, Option.some.injEq, Addr.mk.injEq] at e1
        obtain ⟨⟨rfl, rfl, _⟩, _, rfl⟩ := e1
        obtain ⟨bb1, o1, c1, e1, _, _, _, h6⟩ := H.out.at (i := 3 * j + 2) (by omega)
        simp only [Value.slice.injEq, Option.some.injEq, Addr.mk.injEq] at e1
        obtain ⟨⟨rfl, rfl, _⟩, _, rfl⟩ := e1
        rw [← hf.cell (p := ⟨bb, o + 3 * j, none⟩) h3 id] at h4
        rw [← hf.cell (p := ⟨bb, o + (3 * j + 1), none⟩) h3 id] at h5
        rw [← hf.cell (p := ⟨bb, o + (3 * j + 2), none⟩) h3 id] at h6
        have hx : l.getD (3 * j) 0 = l[3 * j] := by simp [List.getD, show 3 * j < l.length by omega]
        have hy : l.getD (3 * j + 1) 0 = l[3 * j + 1] := by simp [List.getD, show 3 * j + 1 < l.length by omega]
        have hz : l.getD (3 * j + 2) 0 = l[3 * j + 2] := by simp [List.getD, show 3 * j + 2 < l.length by omega]
        have bx := HB.out _ (List.getElem_mem (show 3 * j < l.length by omega))
        have by' := HB.out _ (List.getElem_mem (show 3 * j + 1 < l.length by omega))
        have bz := HB.out _ (List.getElem_mem (show 3 * j + 2 < l.length by omega))
        rw [← hx] at h4 bx
        rw [← hy] at h5 by'
        rw [← hz] at h6 bz
        have EW : Hid (whoK l j = l.getD (3 * j) 0 / 16 % 3 ∧ opK l j = ⟨kindZ (l.getD (3 * j) 0 % 16), idOf (kindZ (l.getD (3 * j) 0 % 16)) (l.getD (3 * j + 1) 0), vOf (kindZ (l.getD (3 * j) 0 % 16)) (l.getD (3 * j + 2) 0)⟩) := ⟨rfl, rfl⟩
        generalize l.getD (3 * j) 0 = x at *
        generalize l.getD (3 * j + 1) 0 = y at *
        generalize l.getD (3 * j + 2) 0 = z at *
        clear hx hy hz
        obtain ⟨t, ht⟩ : ∃ t, t = 3 * j := ⟨_, rfl⟩
        rw [← ht] at h4 h5 h6
        have ht2 : t + 2 < l.length := by omega
        have ht4 : t < 400 := by omega
        have w30 : IntKind.i64.wrap (3 * (j : Int)) = (t : Int) := by rw [IntWalk.i64_in _ (by omega)]; omega
        have w31 : IntKind.i64.wrap ((t : Int) + 1) = (t : Int) + 1 := IntWalk.i64_in _ (by omega)
        have w32 : IntKind.i64.wrap ((t : Int) + 2) = (t : Int) + 2 := IntWalk.i64_in _ (by omega)
        have HTJ := Lib.hid ht
        clear ht
        have hsz := hf.size
        have HLS := Lib.hid hL
        have HFR := Lib.hid hf
        clear hL hf
        go_wp2_with fail
        go_region
        go_wp2_with fail
        have hc : x / 16 % 3 < 3 := Nat.mod_lt _ (by decide)
        have hkx : x % 16 < 16 := Nat.mod_lt _ (by decide)
        rw [show ((x : Int) / 16 % 3) = ((x / 16 % 3 : Nat) : Int) from by omega]
        have em : Int.tmod (x : Int) 16 = ((x % 16 : Nat) : Int) := by rw [Int.tmod_eq_emod_of_nonneg (by omega)]; omega
        generalize x / 16 % 3 = ci at *
        generalize x % 16 = kx at *
        have hcI : (ci : Int) < 3 := by omega
        have hkI : (kx : Int) < 16 := by omega
        have f0 : Fr NoF wr wr.drew := (Fr.refl NoF wr).drew
        have HLS := Lib.hid (HLS.out.fr0 f0)
        have HFR := Lib.hid (HFR.out.trans f0 (fun _ q => q.elim))
        have HSZ := Lib.hid HFR.out.size
        have HC : Hid (∀ W, Fr NoF wr.drew W → Calls Tryd.prog 30 #[.int .i64 (kindZ kx : Nat), .int .u8 y, .int .u8 z] W fun e w' => e = .returned (.agg #[.int .i64 (kindZ kx : Nat), .int .u32 (idOf (kindZ kx) y : Nat), .int .u64 (vOf (kindZ kx) z : Nat)]) ∧ Fr NoF wr.drew w') := fun W f =>
          (scr_call (HT.out.fr0 (HFR.out.trans f (fun _ q => q.elim))) (kindZ_lt kx) by' bz).mono fun e w' ⟨he, g⟩ => ⟨he, f.trans g (fun _ q => q.elim)⟩
        have HLN : Hid ((opsK l j ci).length ≤ 60) := Nat.le_trans (opsK_len l j ci) (by have := hN.out.1; omega)
        have c0 := HLS.out.blk.cell hc
        have c1 := (HT.out.fr0 HFR.out).kz kx hkx
        have c2 := HLS.out.blk.frozen ci
        have c3 := HLS.out.blk.lt
        have KS : Hid (∀ W, Fr NoF wr.drew W → (fun w' => w'.cell? ⟨w.heap.size, ci, none⟩ = some (vs ci) ∧ w'.cell? ⟨1, kx, none⟩ = some (.int .i64 (kindZ kx : Nat))) W) := fun W f => ⟨(HLS.out.fr0 f).blk.cell hc, ((HT.out.fr0 HFR.out).fr0 f).kz kx hkx⟩
        have hkb : ∀ i, (vs ci).ownBlock = some i → ¬ i = 1 := fun i q e => by
          have := (World.ownsRow.lt (HLS.out.own ci hc) i q).1
          have := World.block_lt_of_cell? (w := w) (a := ⟨1, 0, none⟩) (HT.out.kz 0 (by decide))
          simp only at this
          omega
        have KF : Hid (∀ W W', Fr NoF wr.drew W → Fr (fun b => (vs ci).ownBlock = some b) W W' → (fun w' => w'.cell? ⟨w.heap.size, ci, none⟩ = some (vs ci) ∧ w'.cell? ⟨1, kx, none⟩ = some (.int .i64 (kindZ kx : Nat))) W') := fun W W' f g => by
          obtain ⟨k1, k2⟩ := KS.out W f
          have l1 := (HLS.out.fr0 f).blk.lt
          have l2 := World.block_lt_of_cell? (w := W) (a := ⟨1, kx, none⟩) k2
          exact ⟨(g.cell (p := ⟨w.heap.size, ci, none⟩) l1 (fun q => HLS.out.nb ci hc _ q rfl)).trans k1, (g.cell (p := ⟨1, kx, none⟩) l2 (fun q => hkb _ q rfl)).trans k2⟩
        clear h3 h4 h5 h6 f0 hkb w30 w31 w32
        generalize wr.drew = wD at *
        refine region_tail (fun w' => w'.cell? ⟨w.heap.size, ci, none⟩ = some (vs ci) ∧ w'.cell? ⟨1, kx, none⟩ = some (.int .i64 (kindZ kx : Nat))) 16 (by kernel_rfl) rfl rfl (by kernel_rfl) ?_
        simp only [List.take_succ_cons, List.take_zero]
        have hS : (fun w' => w'.cell? ⟨w.heap.size, ci, none⟩ = some (vs ci) ∧ w'.cell? ⟨1, kx, none⟩ = some (.int .i64 (kindZ kx : Nat))) wD.drew := ⟨c0, c1⟩
        refine wpAnyH_take (i := 0) (v := ?_) rfl (by decide +kernel) (by decide +kernel) (by decide +kernel) (fun _ _ _ h => h) (Or.inl ⟨by rfl, ?_⟩) hS ?_
        rotate_left
        · intro wS hSw; (try dsimp only at hSw); go_simp
          try with_reducible rfl
        try simp only [Act.put, List.setIfInBounds_toArray, List.set_cons_zero, List.set_cons_succ]
        refine wpAnyH_take (i := 1) (v := ?_) rfl (by decide +kernel) (by decide +kernel) (by decide +kernel) (fun _ _ _ h => h) (Or.inl ⟨by rfl, ?_⟩) hS ?_
        rotate_left
        · intro wS hSw; (try dsimp only at hSw); go_simp
          try with_reducible rfl
        try simp only [Act.put, List.setIfInBounds_toArray, List.set_cons_zero, List.set_cons_succ]
        refine wpAnyH_take (i := 2) (v := ?_) rfl (by decide +kernel) (by decide +kernel) (by decide +kernel) (fun _ _ _ h => h) (Or.inl ⟨by rfl, ?_⟩) hS ?_
        rotate_left
        · intro wS hSw; (try dsimp only at hSw); go_simp
          try with_reducible rfl
        try simp only [Act.put, List.setIfInBounds_toArray, List.set_cons_zero, List.set_cons_succ]
        refine wpAnyH_take (i := 3) (v := ?_) rfl (by decide +kernel) (by decide +kernel) (by decide +kernel) (fun _ _ _ h => h) (Or.inl ⟨by rfl, ?_⟩) hS ?_
        rotate_left
        · intro wS hSw; (try dsimp only at hSw); go_simp
          try with_reducible rfl
        try simp only [Act.put, List.setIfInBounds_toArray, List.set_cons_zero, List.set_cons_succ]
        refine wpAnyH_take (i := 4) (v := ?_) rfl (by decide +kernel) (by decide +kernel) (by decide +kernel) (fun _ _ _ h => h) (Or.inl ⟨by rfl, ?_⟩) hS ?_
        rotate_left
        · intro wS hSw; (try dsimp only at hSw); go_simp
          try with_reducible rfl
        try simp only [Act.put, List.setIfInBounds_toArray, List.set_cons_zero, List.set_cons_succ]
        refine wpAnyH_take (i := 5) (v := ?_) rfl (by decide +kernel) (by decide +kernel) (by decide +kernel) (fun _ _ _ h => h) (Or.inl ⟨by rfl, ?_⟩) hS ?_
        rotate_left
        · intro wS hSw; (try dsimp only at hSw); go_simp
          try with_reducible rfl
        try simp only [Act.put, List.setIfInBounds_toArray, List.set_cons_zero, List.set_cons_succ]
        refine wpAnyH_take (i := 6) (v := ?_) rfl (by decide +kernel) (by decide +kernel) (by decide +kernel) (fun _ _ _ h => h) (Or.inl ⟨by rfl, ?_⟩) hS ?_
        rotate_left
        · intro wS hSw; (try dsimp only at hSw); go_simp
          try with_reducible rfl
        try simp only [Act.put, List.setIfInBounds_toArray, List.set_cons_zero, List.set_cons_succ]
        refine wpAnyH_take (i := 7) (v := ?_) rfl (by decide +kernel) (by decide +kernel) (by decide +kernel) (fun _ _ _ h => h) (Or.inl ⟨by rfl, ?_⟩) hS ?_
        rotate_left
        · intro wS hSw; (try dsimp only at hSw); go_simp
          try with_reducible rfl
        try simp only [Act.put, List.setIfInBounds_toArray, List.set_cons_zero, List.set_cons_succ]
        refine wpAnyH_take (i := 8) (v := ?_) rfl (by decide +kernel) (by decide +kernel) (by decide +kernel) (fun _ _ _ h => h) (Or.inl ⟨by rfl, ?_⟩) hS ?_
        rotate_left
        · intro wS hSw; (try dsimp only at hSw); go_simp
          try with_reducible rfl
        try simp only [Act.put, List.setIfInBounds_toArray, List.set_cons_zero, List.set_cons_succ]
        refine wpAnyH_take (i := 9) (v := ?_) rfl (by decide +kernel) (by decide +kernel) (by decide +kernel) (fun _ _ _ h => h) (Or.inl ⟨by rfl, ?_⟩) hS ?_
        rotate_left
        · intro wS hSw; (try dsimp only at hSw); go_simp
          try with_reducible rfl
        try simp only [Act.put, List.setIfInBounds_toArray, List.set_cons_zero, List.set_cons_succ]
        refine wpAnyH_take (i := 10) (v := ?_) rfl (by decide +kernel) (by decide +kernel) (by decide +kernel) (fun _ _ _ h => h) (Or.inl ⟨by rfl, ?_⟩) hS ?_
        rotate_left
        · intro wS hSw; (try dsimp only at hSw); go_simp
          try with_reducible rfl
        try simp only [Act.put, List.setIfInBounds_toArray, List.set_cons_zero, List.set_cons_succ]
        refine wpAnyH_take (i := 11) (v := ?_) rfl (by decide +kernel) (by decide +kernel) (by decide +kernel) (fun _ _ _ h => h) (Or.inl ⟨by rfl, ?_⟩) hS ?_
        rotate_left
        · intro wS hSw; (try dsimp only at hSw); go_simp
          try with_reducible rfl
        try simp only [Act.put, List.setIfInBounds_toArray, List.set_cons_zero, List.set_cons_succ]
        clear hS
        refine wpAnyH_ready (rs := [12]) (by kernel_rfl) (by simp) ?_
        refine AllReadyH.cons rfl (fun K hK => ?_) ?_
        · go_simp; go_at_call 30; (with_reducible refine (HC.out _ (by repeat (first | exact Fr.refl NoF _ | exact H5.out | apply Fr.drew | apply Fr.drewN | apply Fr.alloc))).mono ?_); rintro e w5 ⟨rfl, h5⟩; have H5 := Lib.hid h5; clear h5; go_wp2_with fail
          refine hK.out _ _ (by first | exact KZ.out | exact KS.out _ (by repeat (first | exact Fr.refl NoF _ | exact H5.out | apply Fr.drew | apply Fr.alloc))) (fun hS => ?_)
          clear hK K
          try simp only [Act.put, List.setIfInBounds_toArray, List.set_cons_zero, List.set_cons_succ]
          refine wpAnyH_ready (rs := [13]) (by kernel_rfl) (by simp) ?_
          refine AllReadyH.cons rfl (fun K hK => ?_) ?_
          · go_simp
            refine hK.out _ _ (by first | exact KZ.out | exact KS.out _ (by repeat (first | exact Fr.refl NoF _ | exact H5.out | apply Fr.drew | apply Fr.alloc))) (fun hS => ?_)
            clear hK K
            try simp only [Act.put, List.setIfInBounds_toArray, List.set_cons_zero, List.set_cons_succ]
            refine wpAnyH_ready (rs := [14]) (by kernel_rfl) (by simp) ?_
            refine AllReadyH.cons rfl (fun K hK => ?_) ?_
            · refine appSB (base := w.heap.size) EImo rfl (.tmp 42) (.tmp 50) rfl (by rfl) (by rfl) (Nat.le_trans HSZ.out (Fr.size (F := NoF) (w := wD) (by repeat (first | exact Fr.refl NoF _ | exact H5.out | apply Fr.drew | apply Fr.drewN | apply Fr.alloc)))) (own_keep (HLS.out.own ci hc) (by repeat (first | exact Fr.refl NoF _ | exact H5.out | apply Fr.drew | apply Fr.drewN | apply Fr.alloc)) (fun _ _ q => q)) (SlC.ofOwn (own_new (w0 := wD) (Fr.size (F := NoF) (by repeat (first | exact Fr.refl NoF _ | exact H5.out | apply Fr.drew | apply Fr.drewN | apply Fr.alloc))) #[_, _, _] 38 3 1 _ rfl rfl (by unfold maxLen; omega)) (by intro u hu; simp at hu; rcases hu with rfl | rfl | rfl <;> rfl)) (by have := HLN.out; unfold maxLen; omega) (by have := HLN.out; omega) ?_; intro v6 w6 hown6 hf6 hob6; have HO6 := Lib.hid hown6; have HF6 := Lib.hid hf6; have HB6 := Lib.hid hob6; have hkz := KF.out _ _ (by repeat (first | exact Fr.refl NoF _ | exact H5.out | apply Fr.drew | apply Fr.drewN | apply Fr.alloc)) hf6; have KZ := Lib.hid hkz; clear hown6 hf6 hob6 hkz
              refine hK.out _ _ (by first | exact KZ.out | exact KS.out _ (by repeat (first | exact Fr.refl NoF _ | exact H5.out | apply Fr.drew | apply Fr.alloc))) (fun hS => ?_)
              clear hK K
              try simp only [Act.put, List.setIfInBounds_toArray, List.set_cons_zero, List.set_cons_succ]
              refine wpAnyH_take (i := 15) (v := ?_) rfl (by decide +kernel) (by decide +kernel) (by decide +kernel) (fun _ _ _ h => h) (Or.inl ⟨by rfl, ?_⟩) hS ?_
              rotate_left
              · intro wS hSw; (try dsimp only at hSw); go_simp
                try with_reducible rfl
              try simp only [Act.put, List.setIfInBounds_toArray, List.set_cons_zero, List.set_cons_succ]
              refine wpAnyH_done (by kernel_rfl) ?_ _
              show wpList _ _ _ _ _ _
              have h1c : ∀ u ∈ flatK (opsK l j ci) ++ #[Value.int .i64 (kindZ kx : Nat), .int .u32 (idOf (kindZ kx) y : Nat), .int .u64 (vOf (kindZ kx) z : Nat)].toList, u.oneCell' = true := fun u hu => by
                rcases List.mem_append.1 hu with q | q
                · exact flatK_one _ u q
                · simp only [List.mem_cons, List.not_mem_nil, or_false] at q
                  rcases q with rfl | rfl | rfl <;> rfl
              obtain ⟨a6, c6, rfl, _, _⟩ := (SlC.ofOwn HO6.out h1c).shape
              clear h1c
              have fz : Fr NoF wD (w5.alloc (.cells #[.int .i64 (kindZ kx : Nat), .int .u32 (idOf (kindZ kx) y : Nat), .int .u64 (vOf (kindZ kx) z : Nat)] 38)) := H5.out.alloc _
              have hL5 := HLS.out.fr0 fz
              have hb6 := hL5.blk.fr HF6.out (fun q => hL5.nb ci hc _ q rfl)
              have PUT := Lib.hid (hL5.put hc (o := ⟨kindZ kx, idOf (kindZ kx) y, vOf (kindZ kx) z⟩) HO6.out HF6.out HB6.out)
              have PFR : Hid (Fr NoF w (w6.setCell ⟨w.heap.size, ci, none⟩ (.slice a6 ((opsK l j ci).length + 1) c6))) := Fr.setCell (Fr.trans (HFR.out.trans fz (fun _ q => q.elim)) HF6.out (fun i q => .inr (ownBlock_own (HLS.out.own ci hc) i q))) (p := ⟨w.heap.size, ci, none⟩) (.inr (Nat.le_refl _)) _
              have k1 := KZ.out.1
              have k2 := hb6.frozen ci
              have k3 := hb6.lt
              clear fz hL5 hb6 HO6 HF6 HB6 KZ H5 KS KF HC c0 c1 c2 c3 HLS HFR HT em
              go_wp2
              go_roundw
              case rel => exact ⟨j + 1, by omega, by go_num, ⟨_, by
                show L3 _ _ _ _ (upd (opsK l j) (whoK l j) (opsK l j (whoK l j) ++ [opK l j]))
                rw [EW.out.1, EW.out.2]
                exact PUT.out⟩, PFR.out⟩
              case measure => simp [intOf]; omega
            exact AllReadyH.nil
          exact AllReadyH.nil
        exact AllReadyH.nil
      · obtain rfl : j = n := by omega
        have HX := Lib.hid hL
        have HF := Lib.hid hf
        clear hL hf
        go_wp2
        go_returns
        exact ⟨vs, rfl, HX.out, HF.out⟩
end Go.Proofs.YtaebogmgjimkfaaDoor

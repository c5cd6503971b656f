/-
  least's Set in memory: Empty.
-/
import Derived.Test.YtnideelidfpicaaGreatDoorK07
import Derived.Test.YtnideelidfpicaaGreatDoorK08
import Derived.RegionTactic
import Derived.Deep.RegionLaw
import Derived.BigQuiet
namespace Go.Proofs.YtnideelidfpicaaGreatDoor
open Go.RowKit
set_option linter.unusedVariables false

theorem EIw : EI Tryz.prog 66 102 1 24 := EI.mk' (z := .slice none 0 0) Tryz.underlying66 (by kernel_rfl) rfl (by decide)
def noneB : Nat → Bool := fun _ => false
theorem wordAux_none (base : Nat) : ∀ n, wordAux noneB base n = 0
  | 0 => rfl
  | n + 1 => by unfold wordAux; rw [wordAux_none base n]; simp [noneB]
theorem lev_none : ∀ i, lev noneB i = noneB
  | 0 => rfl
  | i + 1 => by
    show up (lev noneB i) = noneB
    rw [lev_none i]
    funext x
    unfold up wordOf
    rw [wordAux_none]; simp [noneB]
/-- How many words are wanted behind k levels. -/
def wd (bound : Nat) : Nat → Nat
  | 0 => bound
  | k + 1 => szs bound k
theorem wd_next (bound k : Nat) : szs bound k = (wd bound k + 63) / 64 := by cases k <;> rfl
theorem wd_lt {bound : Nat} (hb : bound ≤ 65535) {k : Nat} (h : k = 0 ∨ 2 ≤ wd bound k) : k ≤ 2 := by
  rcases h with rfl | h
  · omega
  · match k, h with
    | 0, _ => omega
    | 1, _ => omega
    | 2, _ => omega
    | k + 3, h =>
      exfalso
      have : ∀ k, szs bound (k + 2) ≤ 1 := by
        intro k
        induction k with
        | zero => exact szs_two hb
        | succ k ih => show (szs bound (k + 2) + 63) / 64 ≤ 1; omega
      have := this k
      have h' : 2 ≤ szs bound (k + 2) := h
      omega
/-- The levels so far: k of them, all empty. -/
structure LE (w : World) (bound : Nat) (v : Value) (h : Nat → Nat) (k base : Nat) : Prop where
  row : SlF w 102 1 v k (rowC h bound)
  lv : ∀ i, i < k → Blk w (h i) (szs bound i) (wC noneB)
  inj : ∀ i j, i < k → j < k → h i = h j → i = j
  apart : ∀ i, i < k → ¬ v.ownBlock = some (h i)
  new : ∀ i, LF v h k i → base ≤ i
section
variable {w w' : World} {bound k base : Nat} {v : Value} {h : Nat → Nat}
theorem LE.fr (H : LE w bound v h k base) {G : Nat → Prop} (f : Fr G w w') (hG : ∀ i, LF v h k i → ¬ G i) : LE w' bound v h k base :=
  ⟨H.row.fr f (fun b q => hG b (.inl q)), fun i hi => (H.lv i hi).fr f (hG _ (.inr ⟨i, hi, rfl⟩)), H.inj, H.apart, H.new⟩
theorem LE.fr0 (H : LE w bound v h k base) (f : Fr NoF w w') : LE w' bound v h k base := H.fr f (fun _ _ q => q)
theorem LE.lt (H : LE w bound v h k base) : ∀ i, LF v h k i → i < w.heap.size := by
  rintro i (q | ⟨j, hj, rfl⟩)
  · exact H.row.lt i q
  · exact (H.lv j hj).lt
theorem LE.first (w : World) (bound base : Nat) : LE w bound (.slice none 0 0) (fun _ => 0) 0 base :=
  ⟨SlF.nil _ _ _ _, fun i hi => by omega, fun i j hi => by omega, fun i hi => by omega, fun i q => by rcases q with q | ⟨j, hj, _⟩; cases q; omega⟩
theorem rowC_ext {h h' : Nat → Nat} {k : Nat} (e : ∀ i, i < k → h i = h' i) : (List.range (k * 1)).map (rowC h bound) = (List.range (k * 1)).map (rowC h' bound) := by
  apply List.map_congr_left
  intro i hi
  have := List.mem_range.1 hi
  unfold rowC
  rw [e i (by omega)]
/-- A level more. -/
theorem LE.snoc (H : LE w bound v h k base) (hb : base ≤ w.heap.size) {w1 w2 : World} {v' : Value} (hz : Blk w1 w.heap.size (szs bound k) (wC noneB)) (f1 : Fr NoF w w1) (hl : w.heap.size < w1.heap.size)
    (ho : w2.ownsRow 0 102 1 v' (k + 1) ((List.range (k * 1)).map (rowC h bound) ++ [.slice (some ⟨w.heap.size, 0, none⟩) (szs bound k) (szs bound k)])) (f2 : Fr (fun b => v.ownBlock = some b) w1 w2) (ho2 : ∀ b, v'.ownBlock = some b → v.ownBlock = some b ∨ w1.heap.size ≤ b) :
    LE w2 bound v' (fun i => if i = k then w.heap.size else h i) (k + 1) base ∧ (∀ i, LF v' (fun i => if i = k then w.heap.size else h i) (k + 1) i → LF v h k i ∨ w.heap.size ≤ i) := by
  have hlt := H.lt
  have hn : ∀ i, LF v' (fun i => if i = k then w.heap.size else h i) (k + 1) i → LF v h k i ∨ w.heap.size ≤ i := by
    rintro i (q | ⟨j, hj, rfl⟩)
    · rcases ho2 i q with q | q
      · exact .inl (.inl q)
      · right; omega
    · by_cases e : j = k
      · right; show w.heap.size ≤ (if j = k then w.heap.size else h j); rw [if_pos e]; exact Nat.le_refl _
      · left; show LF v h k (if j = k then w.heap.size else h j); rw [if_neg e]; exact .inr ⟨j, by omega, rfl⟩
  refine ⟨⟨?_, fun i hi => ?_, fun i j hi hj e => ?_, fun i hi q => ?_, fun i q => ?_⟩, hn⟩
  · have e := rowC_ext (bound := bound) (h := h) (h' := fun i => if i = k then w.heap.size else h i) (k := k) (fun i hi => by rw [if_neg (by omega)])
    rw [e] at ho
    refine (SlF.snoc1 ho).congr (fun i hi => ?_)
    by_cases e : i = k
    · subst e; rw [upd_same]; unfold rowC; simp only [if_true]
    · rw [upd_other _ _ e]
  · by_cases e : i = k
    · subst e
      rw [if_pos rfl]
      exact hz.fr f2 (fun q => by have := hlt _ (.inl q); omega)
    · rw [if_neg e]
      exact ((H.lv i (by omega)).fr f1 id).fr f2 (fun q => H.apart i (by omega) q)
  · by_cases e1 : i = k
    · by_cases e2 : j = k
      · rw [e1, e2]
      · rw [if_pos e1, if_neg e2] at e
        have := hlt _ (.inr ⟨j, by omega, rfl⟩); omega
    · by_cases e2 : j = k
      · rw [if_neg e1, if_pos e2] at e
        have := hlt _ (.inr ⟨i, by omega, rfl⟩); omega
      · rw [if_neg e1, if_neg e2] at e
        exact H.inj i j (by omega) (by omega) e
  · by_cases e1 : i = k
    · rw [if_pos e1] at q
      rcases ho2 _ q with q | q
      · have := hlt _ (.inl q); omega
      · omega
    · rw [if_neg e1] at q
      rcases ho2 _ q with q | q
      · exact H.apart i (by omega) q
      · have := hlt _ (.inr ⟨i, by omega, rfl⟩); omega
  · rcases hn i q with q | q
    · exact H.new i q
    · omega
/-- All levels are there. -/
theorem LE.ls (H : LE w bound v h (k + 1) base) (h0 : 1 ≤ bound) (h1 : bound ≤ 65535) (hk : k ≤ 2) (ht : szs bound k = 1) : LS w bound noneB v h (k + 1) :=
  ⟨⟨h0, h1, H.row, fun i hi => by rw [lev_none]; exact H.lv i hi, H.inj, H.apart, by omega, ht, by omega⟩, fun x q => by cases q⟩
end
theorem blk_made (w : World) (N : Nat) : Blk (w.alloc (.cells (madeCells #[.int .u64 0] N) 24)) w.heap.size N (wC noneB) :=
  Blk.new _ _ _ _ _ _ rfl (by simp [madeCells]) (fun i hi => by rw [made_at hi]; unfold wC wordOf; rw [wordAux_none]; simp [Nat.mod_one])
def setC (bound : Nat) (v : Value) : Nat → Value
  | 0 => .int .i64 bound
  | 1 => .int .i64 0
  | _ => v
theorem setC_set (bound : Nat) (v v' : Value) (i : Nat) (hi : i < 3) : upd (setC bound v) 2 v' i = setC bound v' i := by
  match i, hi with
  | 0, _ => rfl
  | 1, _ => rfl
  | 2, _ => rfl
/-- A result that is a struct in a block. -/
theorem results_blk {P : Program} {fn : Func} {p : Tmp} {ty : TypeId} (h : fn.results = #[.cell p ty]) (tmps : Array Value) (w : World) {g N : Nat} {c : Nat → Value} {d : TypeDesc} (hb : Blk w g N c) (hp : tmps.getD p undef = .pointer (some ⟨g, 0, none⟩))
    (hu : P.underlying ty = some d) (hd : (match d with | .struct _ | .array _ _ => true | _ => false) = true) (hi : (P.info? ty).map (·.size) = some N) :
    (results fn tmps).run P w = .ok (.agg ((List.range N).map c).toArray) w := by
  obtain ⟨cs, t, hh, hs, hc⟩ := hb
  have e : cs = ((List.range N).map c).toArray := by
    apply Array.ext_getElem?
    intro i
    by_cases hi : i < N
    · rw [hc i hi]; simp [hi]
    · rw [Array.getElem?_eq_none (by omega)]; simp [hi]
  rw [← e]
  exact results_cell_row h tmps w g t cs (0, 0) d hp hh hu hd (by rw [hi, hs])
set_option maxHeartbeats 2000000 in
theorem empty_calls (bound : Nat) (w : World) (hb0 : 1 ≤ bound) (hb : bound ≤ 65535) : Calls Tryz.prog 23 #[.int .i64 bound] w fun e w' => ∃ v h L, e = .returned (.agg #[.int .i64 bound, .int .i64 0, v]) ∧ LS w' bound noneB v h L ∧ (∀ k, LF v h L k → w.heap.size ≤ k) ∧ Fr NoF w w' := by
  obtain ⟨i0, hi0, hz0, hz1, hz2⟩ := info_parts' (P := Tryz.prog) (e := 24) (z := .int .u64 0) (s := 1) (b := 8) (by kernel_rfl)
  have mk1 : ∀ (n : Nat) (w : World), n ≤ 1024 → (Instr.makeSlice 102 (.int .i64 (n : Int)) (.int .i64 (n : Int))).run Tryz.prog w =
      .ok (.slice (some ⟨w.heap.size, 0, none⟩) n n) (w.alloc (.cells (madeCells #[.int .u64 0] n) 24)) := by
    intro n w hn
    have := run_make (P := Tryz.prog) w 102 24 i0 _ Tryz.underlying102 hi0 hz0 .i64 .i64 (n : Int) (n : Int) (by omega) (Int.le_refl _) (by rw [hz2]; omega) (by omega)
    rw [show ((n : Int)).toNat = n from by omega, hz1, Nat.mul_one] at this
    exact this
  have HMK := Lib.hid mk1
  clear hi0 hz0 hz1 hz2 mk1
  go_enter Tryz.func23, Tryz.ntmps23
  go_wp2
  have hszA : ((w.alloc (.cells #[.int .i64 0, .int .i64 0, .slice none 0 0] 68)).alloc (.cells #[.int .i64 bound, .int .i64 0, .slice none 0 0] 68)).heap.size = w.heap.size + 2 := by simp
  have HA : Hid (Fr NoF w ((w.alloc (.cells #[.int .i64 0, .int .i64 0, .slice none 0 0] 68)).alloc (.cells #[.int .i64 bound, .int .i64 0, .slice none 0 0] 68))) := ((Fr.refl NoF w).alloc _).alloc _
  have HRB : Hid (Blk ((w.alloc (.cells #[.int .i64 0, .int .i64 0, .slice none 0 0] 68)).alloc (.cells #[.int .i64 bound, .int .i64 0, .slice none 0 0] 68)) w.heap.size 3 (setC 0 (.slice none 0 0))) := (Blk.new _ _ _ _ _ _ rfl rfl (fun i hi => by
    match i, hi with
    | 0, _ => rfl
    | 1, _ => rfl
    | 2, _ => rfl)).alloc _
  have HSB : Hid (Blk ((w.alloc (.cells #[.int .i64 0, .int .i64 0, .slice none 0 0] 68)).alloc (.cells #[.int .i64 bound, .int .i64 0, .slice none 0 0] 68)) (w.heap.size + 1) 3 (setC bound (.slice none 0 0))) := Blk.new _ _ _ _ _ _ (by simp) rfl (fun i hi => by
    match i, hi with
    | 0, _ => rfl
    | 1, _ => rfl
    | 2, _ => rfl)
  generalize ((w.alloc (.cells #[.int .i64 0, .int .i64 0, .slice none 0 0] 68)).alloc (.cells #[.int .i64 bound, .int .i64 0, .slice none 0 0] 68)) = wA at *
  have hsbA : w.heap.size + 1 < wA.heap.size := by omega
  have hsbB : w.heap.size < w.heap.size + 1 := by omega
  generalize w.heap.size + 1 = sb at *
  go_loopw [4] (fun xv wr => ∃ k v h, xv = .int .i64 (wd bound k : Nat) ∧ (k = 0 ∨ 2 ≤ wd bound k) ∧ Hid (LE wr bound v h k wA.heap.size) ∧ Hid (Blk wr (sb) 3 (setC bound v)) ∧ Hid (Fr (fun i => i = sb) wA wr)) (fun xv _ => (intOf xv).toNat)
  case atStart => exact ⟨0, _, _, rfl, .inl rfl, LE.first _ _ _, HSB.out, Fr.refl _ _⟩
  case round =>
    obtain ⟨k, v, h, rfl, hk, HE, HB, HF⟩ := hrel
    have hk2 := wd_lt hb hk
    have hwn := wd_next bound k
    have hszk := szs_le hb k
    have hpos : 1 ≤ wd bound k := by rcases hk with rfl | q; exact hb0; omega
    have hwle : wd bound k ≤ 65535 := by
      cases k with
      | zero => exact hb
      | succ k => have := szs_le hb k; show szs bound k ≤ 65535; omega
    have hszr := HF.out.size
    have HRW := Lib.hid HE.out.row
    obtain ⟨va, vc, rfl, _, _⟩ := HE.out.row.shape
    have s2 : wr.cell? ⟨sb, 2, none⟩ = some (.slice va k vc) := HB.out.cell (i := 2) (by omega)
    have sl := HB.out.lt
    have sf := HB.out.frozen 2
    have sl2 : sb < wr.heap.size + 1 := by omega
    have sl3 : sb < wr.heap.size + 1 + 1 := by omega
    have K : Hid (∀ W v' w2, Fr NoF wr W → Blk W wr.heap.size (szs bound k) (wC noneB) → wr.heap.size < W.heap.size → w2.ownsRow 0 102 1 v' (k + 1) ((List.range (k * 1)).map (rowC h bound) ++ [.slice (some ⟨wr.heap.size, 0, none⟩) (szs bound k) (szs bound k)]) → Fr (fun b => (Value.slice va k vc).ownBlock = some b) W w2 → (∀ b, v'.ownBlock = some b → (Value.slice va k vc).ownBlock = some b ∨ W.heap.size ≤ b) →
        ∃ va' vc', v' = .slice va' (k + 1) vc' ∧ w2.cell? ⟨sb, 2, none⟩ = some (.slice va k vc) ∧ w2.frozen? ⟨sb, 2, none⟩ = false ∧ sb < w2.heap.size ∧
        Hid (∃ h', LE (w2.setCell ⟨sb, 2, none⟩ v') bound v' h' (k + 1) wA.heap.size ∧ Blk (w2.setCell ⟨sb, 2, none⟩ v') (sb) 3 (setC bound v') ∧ Fr (fun i => i = sb) wA (w2.setCell ⟨sb, 2, none⟩ v'))) := by
      intro W v' w2 f1 hz hl ho f2 ho2
      obtain ⟨q1, q2⟩ := HE.out.snoc hszr hz f1 hl ho f2 ho2
      obtain ⟨va', vc', e, _, _⟩ := q1.row.shape
      have hnv : ∀ b, (Value.slice va k vc).ownBlock = some b → ¬ b = sb := fun b q e => by have := HE.out.new b (.inl q); omega
      have B2 := (HB.out.fr f1 id).fr f2 (fun q => hnv _ q rfl)
      have c2 := B2.cell (i := 2) (by omega)
      have F2 : Fr (fun i => i = sb) wA w2 := HF.out.trans (G := fun b => (Value.slice va k vc).ownBlock = some b) ((f1.mono (fun _ q => q.elim)).trans f2 (fun i q => .inl q)) (fun i q => .inr (HE.out.new i (.inl q)))
      refine ⟨va', vc', e, c2, B2.frozen 2, B2.lt, _, q1.fr ((Fr.refl (fun i => i = sb) w2).setCell (p := ⟨sb, 2, none⟩) (.inl rfl) _) (fun i q e => by have := q1.new i q; omega), (B2.set 2 v').congr (fun i hi => setC_set _ _ _ i hi), F2.setCell (p := ⟨sb, 2, none⟩) (.inl rfl) _⟩
    clear HE HF
    have hw1 : IntKind.i64.wrap ((wd bound k : Nat) + 64 : Int) = (wd bound k : Nat) + 64 := IntWalk.i64_in _ (by omega)
    have hw2 : IntKind.i64.wrap ((wd bound k : Nat) + 64 - 1 : Int) = (wd bound k : Nat) + 64 - 1 := IntWalk.i64_in _ (by omega)
    have hw3 : ((wd bound k : Nat) + 64 - 1 : Int) / 64 = (szs bound k : Nat) := by omega
    have mk : ∀ w, (Instr.makeSlice 102 (.int .i64 (((wd bound k : Nat) + 64 - 1 : Int) / 64)) (.int .i64 (((wd bound k : Nat) + 64 - 1 : Int) / 64))).run Tryz.prog w = .ok (.slice (some ⟨w.heap.size, 0, none⟩) (szs bound k) (szs bound k)) (w.alloc (.cells (madeCells #[.int .u64 0] (szs bound k)) 24)) := fun w => by rw [hw3]; exact HMK.out (szs bound k) w hszk
    have HW3 := Lib.hid hw3
    have HWK : Hid (wd bound (k + 1) = szs bound k) := rfl
    have HT : Hid (szs bound k = 1 → ∀ w' v' h', LE w' bound v' h' (k + 1) wA.heap.size → LS w' bound noneB v' h' (k + 1)) := fun q w' v' h' hle => hle.ls hb0 hb hk2 q
    clear hwn hw3
    generalize wd bound k = wk at *
    go_wp2
    go_region_law (first
      | (refine appSB (base := 0) EIw rfl (.tmp 15) (.tmp 18) rfl (by rfl) (by rfl) (Nat.zero_le _) (own_keep HRW.out (by repeat (first | exact Fr.refl NoF _ | apply Fr.drew | apply Fr.alloc)) (fun _ _ q => q)) (sl_heap (size := 1) (n := 1) (cs := #[.slice (some ⟨wr.heap.size, 0, none⟩) (szs bound k) (szs bound k)]) (by (try rw [heap_drew]); refine heap_alloc_new _ _ _ ?_; simp) (by rfl) (by unfold maxLen; omega) (by simp [Value.oneCell'])) (by unfold maxLen; omega) (by omega) ?_; intro v' w2 hown' hf' hob'; obtain ⟨va', vc', rfl, c2, f2, l2, HR⟩ := K.out _ v' w2 (by repeat (first | exact Fr.refl NoF _ | apply Fr.drew | apply Fr.alloc)) (by repeat (first | exact blk_made _ _ | apply Blk.drew | apply Blk.alloc)) (by simp <;> omega) hown' hf' hob'; clear hown' hf' hob'))
    all_goals
      obtain ⟨h', HE2, HB2, HF2⟩ := HR.out
      have HE2 := Lib.hid HE2
      have HB2 := Lib.hid HB2
      have HF2 := Lib.hid HF2
      clear HR c2 f2 l2
      generalize w2.setCell ⟨sb, 2, none⟩ (.slice va' (k + 1) vc') = w3 at *
      by_cases h1 : szs bound k = 1
      · have HLS := Lib.hid (HT.out h1 _ _ _ HE2.out)
        have hz : (((wk : Int) + 64 - 1) / 64 == 1) = true := by rw [HW3.out, h1]; rfl
        have s0 : w3.cell? ⟨sb, 0, none⟩ = some (.int .i64 bound) := HB2.out.cell (i := 0) (by omega)
        have s1 : w3.cell? ⟨sb, 1, none⟩ = some (.int .i64 0) := HB2.out.cell (i := 1) (by omega)
        have s2' : w3.cell? ⟨sb, 2, none⟩ = some (.slice va' (k + 1) vc') := HB2.out.cell (i := 2) (by omega)
        have ls := HB2.out.lt
        have RB := HRB.out.fr HF2.out (fun e => by omega)
        have HRB3 := Lib.hid RB
        have t0 : w3.cell? ⟨w.heap.size, 0, none⟩ = some (.int .i64 0) := RB.cell (i := 0) (by omega)
        have t1 : w3.cell? ⟨w.heap.size, 1, none⟩ = some (.int .i64 0) := RB.cell (i := 1) (by omega)
        have t2 : w3.cell? ⟨w.heap.size, 2, none⟩ = some (.slice none 0 0) := RB.cell (i := 2) (by omega)
        have g0 := RB.frozen 0
        have g1 := RB.frozen 1
        have g2 := RB.frozen 2
        have lr := RB.lt
        have hne : ¬ w.heap.size = sb := by omega
        clear RB h1
        have HRS : Hid (Blk (((w3.setCell ⟨w.heap.size, 0, none⟩ (.int .i64 bound)).setCell ⟨w.heap.size, 1, none⟩ (.int .i64 0)).setCell ⟨w.heap.size, 2, none⟩ (.slice va' (k + 1) vc')) w.heap.size 3 (upd (upd (upd (setC 0 (.slice none 0 0)) 0 (.int .i64 bound)) 1 (.int .i64 0)) 2 (.slice va' (k + 1) vc'))) := ((HRB3.out.set 0 _).set 1 _).set 2 _
        have F3 : Fr (fun i => i = w.heap.size) w3 (((w3.setCell ⟨w.heap.size, 0, none⟩ (.int .i64 bound)).setCell ⟨w.heap.size, 1, none⟩ (.int .i64 0)).setCell ⟨w.heap.size, 2, none⟩ (.slice va' (k + 1) vc')) := (((Fr.refl (fun i => i = w.heap.size) w3).setCell (p := ⟨w.heap.size, 0, none⟩) (.inl rfl) _).setCell (p := ⟨w.heap.size, 1, none⟩) (.inl rfl) _).setCell (p := ⟨w.heap.size, 2, none⟩) (.inl rfl) _
        have HF3 := Lib.hid F3
        clear F3
        go_wp2
        (try simp only [Exit.inBlock, Exit.then])
        refine bodyPost_ret (results_blk Tryz.results23 _ _ HRS.out rfl Tryz.underlying68 rfl (by kernel_rfl)) rfl ?_
        have hA := HA.out.size
        refine ⟨.slice va' (k + 1) vc', h', k + 1, rfl, ⟨HLS.out.r.fr HF3.out (fun i q e => by have := HE2.out.new i q; omega), HLS.out.dom⟩, fun i q => by have := HE2.out.new i q; omega, (HA.out.trans (G := fun i => i = sb) HF2.out (fun i q => .inr (by omega))).trans (G := fun i => i = w.heap.size) HF3.out (fun i q => .inr (by omega))⟩
      · have hz : (((wk : Int) + 64 - 1) / 64 == 1) = false := by
          have := HW3.out
          simp; omega
        have hpos2 := szs_pos hb0 k
        have hlt : szs bound k < wk := by have := HW3.out; omega
        have hge : 2 ≤ szs bound k := by omega
        go_wp2
        go_roundw
        case rel => exact ⟨k + 1, _, h', by rw [HWK.out, ← HW3.out], .inr (by rw [HWK.out]; exact hge), HE2.out, HB2.out, HF2.out⟩
        case measure => simp [intOf] <;> omega
end Go.Proofs.YtnideelidfpicaaGreatDoor

/-
  least's Set in memory: Empty.
  least's Set in memory: Full.
  pool's tell: what is told a Replacer; one that doesn't panic.
  A Pool in memory, its disk and its Replacer aside: its head, the frames, the places, both sets.
  A Replacer, as a pool tells it things: what is asked of it.
  pool: find, held, allPinned, Has, Frame, Pins, Read, Scans.
-/
import Derived.Test.YtmpjnphnljakiaaGreatDoorK07
import Derived.Test.YtmpjnphnljakiaaGreatDoorK08
import Derived.RegionTactic
import Derived.Deep.RegionLaw
import Derived.BigQuiet
import Derived.Defers
import Derived.Recover
import Derived.Deep.QuietTactic
import Derived.Handy
import Derived.Test.YtmpjnphnljakiaaGreatDoorK04
namespace Go.Proofs.YtmpjnphnljakiaaGreatDoor
open Go.RowKit
set_option linter.unusedVariables false

theorem EIw : EI Tryz.prog 55 83 1 24 := EI.mk' (z := .slice none 0 0) Tryz.underlying55 (by kernel_rfl) rfl (by decide)
def noneB : Nat → Bool := fun _ => false
theorem wordAux_none (base : Nat) : ∀ n, wordAux noneB base n = 0
  | 0 => rfl
  | n + 1 => by unfold wordAux; rw [wordAux_none base n]; simp [noneB]
theorem lev_none : ∀ i, lev noneB i = noneB
  | 0 => rfl
  | i + 1 => by
    show up (lev noneB i) = noneB
    rw [lev_none i]
    funext x
    unfold up wordOf
    rw [wordAux_none]; simp [noneB]
/-- How many words are wanted behind k levels. -/
def wd (bound : Nat) : Nat → Nat
  | 0 => bound
  | k + 1 => szs bound k
theorem wd_next (bound k : Nat) : szs bound k = (wd bound k + 63) / 64 := by cases k <;> rfl
theorem wd_lt {bound : Nat} (hb : bound ≤ 65535) {k : Nat} (h : k = 0 ∨ 2 ≤ wd bound k) : k ≤ 2 := by
  rcases h with rfl | h
  · omega
  · match k, h with
    | 0, _ => omega
    | 1, _ => omega
    | 2, _ => omega
    | k + 3, h =>
      exfalso
      have : ∀ k, szs bound (k + 2) ≤ 1 := by
        intro k
        induction k with
        | zero => exact szs_two hb
        | succ k ih => show (szs bound (k + 2) + 63) / 64 ≤ 1; omega
      have := this k
      have h' : 2 ≤ szs bound (k + 2) := h
      omega
/-- The levels so far: k of them, all empty. -/
structure LE (w : World) (bound : Nat) (v : Value) (h : Nat → Nat) (k base : Nat) : Prop where
  row : SlF w 83 1 v k (rowC h bound)
  lv : ∀ i, i < k → Blk w (h i) (szs bound i) (wC noneB)
  inj : ∀ i j, i < k → j < k → h i = h j → i = j
  apart : ∀ i, i < k → ¬ v.ownBlock = some (h i)
  new : ∀ i, LF v h k i → base ≤ i
section
variable {w w' : World} {bound k base : Nat} {v : Value} {h : Nat → Nat}
theorem LE.fr (H : LE w bound v h k base) {G : Nat → Prop} (f : Fr G w w') (hG : ∀ i, LF v h k i → ¬ G i) : LE w' bound v h k base :=
  ⟨H.row.fr f (fun b q => hG b (.inl q)), fun i hi => (H.lv i hi).fr f (hG _ (.inr ⟨i, hi, rfl⟩)), H.inj, H.apart, H.new⟩
theorem LE.fr0 (H : LE w bound v h k base) (f : Fr NoF w w') : LE w' bound v h k base := H.fr f (fun _ _ q => q)
theorem LE.lt (H : LE w bound v h k base) : ∀ i, LF v h k i → i < w.heap.size := by
  rintro i (q | ⟨j, hj, rfl⟩)
  · exact H.row.lt i q
  · exact (H.lv j hj).lt
theorem LE.first (w : World) (bound base : Nat) : LE w bound (.slice none 0 0) (fun _ => 0) 0 base :=
  ⟨SlF.nil _ _ _ _, fun i hi => by omega, fun i j hi => by omega, fun i hi => by omega, fun i q => by rcases q with q | ⟨j, hj, _⟩; cases q; omega⟩
theorem rowC_ext {h h' : Nat → Nat} {k : Nat} (e : ∀ i, i < k → h i = h' i) : (List.range (k * 1)).map (rowC h bound) = (List.range (k * 1)).map (rowC h' bound) := by
  apply List.map_congr_left
  intro i hi
  have := List.mem_range.1 hi
  unfold rowC
  rw [e i (by omega)]
/-- A level more. -/
theorem LE.snoc (H : LE w bound v h k base) (hb : base ≤ w.heap.size) {w1 w2 : World} {v' : Value} (hz : Blk w1 w.heap.size (szs bound k) (wC noneB)) (f1 : Fr NoF w w1) (hl : w.heap.size < w1.heap.size)
    (ho : w2.ownsRow 0 83 1 v' (k + 1) ((List.range (k * 1)).map (rowC h bound) ++ [.slice (some ⟨w.heap.size, 0, none⟩) (szs bound k) (szs bound k)])) (f2 : Fr (fun b => v.ownBlock = some b) w1 w2) (ho2 : ∀ b, v'.ownBlock = some b → v.ownBlock = some b ∨ w1.heap.size ≤ b) :
    LE w2 bound v' (fun i => if i = k then w.heap.size else h i) (k + 1) base ∧ (∀ i, LF v' (fun i => if i = k then w.heap.size else h i) (k + 1) i → LF v h k i ∨ w.heap.size ≤ i) := by
  have hlt := H.lt
  have hn : ∀ i, LF v' (fun i => if i = k then w.heap.size else h i) (k + 1) i → LF v h k i ∨ w.heap.size ≤ i := by
    rintro i (q | ⟨j, hj, rfl⟩)
    · rcases ho2 i q with q | q
      · exact .inl (.inl q)
      · right; omega
    · by_cases e : j = k
      · right; show w.heap.size ≤ (if j = k then w.heap.size else h j); rw [if_pos e]; exact Nat.le_refl _
      · left; show LF v h k (if j = k then w.heap.size else h j); rw [if_neg e]; exact .inr ⟨j, by omega, rfl⟩
  refine ⟨⟨?_, fun i hi => ?_, fun i j hi hj e => ?_, fun i hi q => ?_, fun i q => ?_⟩, hn⟩
  · have e := rowC_ext (bound := bound) (h := h) (h' := fun i => if i = k then w.heap.size else h i) (k := k) (fun i hi => by rw [if_neg (by omega)])
    rw [e] at ho
    refine (SlF.snoc1 ho).congr (fun i hi => ?_)
    by_cases e : i = k
    · subst e; rw [upd_same]; unfold rowC; simp only [if_true]
    · rw [upd_other _ _ e]
  · by_cases e : i = k
    · subst e
      rw [if_pos rfl]
      exact hz.fr f2 (fun q => by have := hlt _ (.inl q); omega)
    · rw [if_neg e]
      exact ((H.lv i (by omega)).fr f1 id).fr f2 (fun q => H.apart i (by omega) q)
  · by_cases e1 : i = k
    · by_cases e2 : j = k
      · rw [e1, e2]
      · rw [if_pos e1, if_neg e2] at e
        have := hlt _ (.inr ⟨j, by omega, rfl⟩); omega
    · by_cases e2 : j = k
      · rw [if_neg e1, if_pos e2] at e
        have := hlt _ (.inr ⟨i, by omega, rfl⟩); omega
      · rw [if_neg e1, if_neg e2] at e
        exact H.inj i j (by omega) (by omega) e
  · by_cases e1 : i = k
    · rw [if_pos e1] at q
      rcases ho2 _ q with q | q
      · have := hlt _ (.inl q); omega
      · omega
    · rw [if_neg e1] at q
      rcases ho2 _ q with q | q
      · exact H.apart i (by omega) q
      · have := hlt _ (.inr ⟨i, by omega, rfl⟩); omega
  · rcases hn i q with q | q
    · exact H.new i q
    · omega
/-- All levels are there. -/
theorem LE.ls (H : LE w bound v h (k + 1) base) (h0 : 1 ≤ bound) (h1 : bound ≤ 65535) (hk : k ≤ 2) (ht : szs bound k = 1) : LS w bound noneB v h (k + 1) :=
  ⟨⟨h0, h1, H.row, fun i hi => by rw [lev_none]; exact H.lv i hi, H.inj, H.apart, by omega, ht, by omega⟩, fun x q => by cases q⟩
end
theorem blk_made (w : World) (N : Nat) : Blk (w.alloc (.cells (madeCells #[.int .u64 0] N) 22)) w.heap.size N (wC noneB) :=
  Blk.new _ _ _ _ _ _ rfl (by simp [madeCells]) (fun i hi => by rw [made_at hi]; unfold wC wordOf; rw [wordAux_none]; simp [Nat.mod_one])
def setC (bound : Nat) (v : Value) : Nat → Value
  | 0 => .int .i64 bound
  | 1 => .int .i64 0
  | _ => v
theorem setC_set (bound : Nat) (v v' : Value) (i : Nat) (hi : i < 3) : upd (setC bound v) 2 v' i = setC bound v' i := by
  match i, hi with
  | 0, _ => rfl
  | 1, _ => rfl
  | 2, _ => rfl
/-- A result that is a struct in a block. -/
theorem results_blk {P : Program} {fn : Func} {p : Tmp} {ty : TypeId} (h : fn.results = #[.cell p ty]) (tmps : Array Value) (w : World) {g N : Nat} {c : Nat → Value} {d : TypeDesc} (hb : Blk w g N c) (hp : tmps.getD p undef = .pointer (some ⟨g, 0, none⟩))
    (hu : P.underlying ty = some d) (hd : (match d with | .struct _ | .array _ _ => true | _ => false) = true) (hi : (P.info? ty).map (·.size) = some N) :
    (results fn tmps).run P w = .ok (.agg ((List.range N).map c).toArray) w := by
  obtain ⟨cs, t, hh, hs, hc⟩ := hb
  have e : cs = ((List.range N).map c).toArray := by
    apply Array.ext_getElem?
    intro i
    by_cases hi : i < N
    · rw [hc i hi]; simp [hi]
    · rw [Array.getElem?_eq_none (by omega)]; simp [hi]
  rw [← e]
  exact results_cell_row h tmps w g t cs (0, 0) d hp hh hu hd (by rw [hi, hs])
set_option maxHeartbeats 2000000 in
theorem empty_calls (bound : Nat) (w : World) (hb0 : 1 ≤ bound) (hb : bound ≤ 65535) : Calls Tryz.prog 16 #[.int .i64 bound] w fun e w' => ∃ v h L, e = .returned (.agg #[.int .i64 bound, .int .i64 0, v]) ∧ LS w' bound noneB v h L ∧ (∀ k, LF v h L k → w.heap.size ≤ k) ∧ Fr NoF w w' := by
  obtain ⟨i0, hi0, hz0, hz1, hz2⟩ := info_parts' (P := Tryz.prog) (e := 22) (z := .int .u64 0) (s := 1) (b := 8) (by kernel_rfl)
  have mk1 : ∀ (n : Nat) (w : World), n ≤ 1024 → (Instr.makeSlice 83 (.int .i64 (n : Int)) (.int .i64 (n : Int))).run Tryz.prog w =
      .ok (.slice (some ⟨w.heap.size, 0, none⟩) n n) (w.alloc (.cells (madeCells #[.int .u64 0] n) 22)) := by
    intro n w hn
    have := run_make (P := Tryz.prog) w 83 22 i0 _ Tryz.underlying83 hi0 hz0 .i64 .i64 (n : Int) (n : Int) (by omega) (Int.le_refl _) (by rw [hz2]; omega) (by omega)
    rw [show ((n : Int)).toNat = n from by omega, hz1, Nat.mul_one] at this
    exact this
  have HMK := Lib.hid mk1
  clear hi0 hz0 hz1 hz2 mk1
  go_enter Tryz.func16, Tryz.ntmps16
  go_wp2
  have hszA : ((w.alloc (.cells #[.int .i64 0, .int .i64 0, .slice none 0 0] 57)).alloc (.cells #[.int .i64 bound, .int .i64 0, .slice none 0 0] 57)).heap.size = w.heap.size + 2 := by simp
  have HA : Hid (Fr NoF w ((w.alloc (.cells #[.int .i64 0, .int .i64 0, .slice none 0 0] 57)).alloc (.cells #[.int .i64 bound, .int .i64 0, .slice none 0 0] 57))) := ((Fr.refl NoF w).alloc _).alloc _
  have HRB : Hid (Blk ((w.alloc (.cells #[.int .i64 0, .int .i64 0, .slice none 0 0] 57)).alloc (.cells #[.int .i64 bound, .int .i64 0, .slice none 0 0] 57)) w.heap.size 3 (setC 0 (.slice none 0 0))) := (Blk.new _ _ _ _ _ _ rfl rfl (fun i hi => by
    match i, hi with
    | 0, _ => rfl
    | 1, _ => rfl
    | 2, _ => rfl)).alloc _
  have HSB : Hid (Blk ((w.alloc (.cells #[.int .i64 0, .int .i64 0, .slice none 0 0] 57)).alloc (.cells #[.int .i64 bound, .int .i64 0, .slice none 0 0] 57)) (w.heap.size + 1) 3 (setC bound (.slice none 0 0))) := Blk.new _ _ _ _ _ _ (by simp) rfl (fun i hi => by
    match i, hi with
    | 0, _ => rfl
    | 1, _ => rfl
    | 2, _ => rfl)
  generalize ((w.alloc (.cells #[.int .i64 0, .int .i64 0, .slice none 0 0] 57)).alloc (.cells #[.int .i64 bound, .int .i64 0, .slice none 0 0] 57)) = wA at *
  have hsbA : w.heap.size + 1 < wA.heap.size := by omega
  have hsbB : w.heap.size < w.heap.size + 1 := by omega
  generalize w.heap.size + 1 = sb at *
  go_loopw [4] (fun xv wr => ∃ k v h, xv = .int .i64 (wd bound k : Nat) ∧ (k = 0 ∨ 2 ≤ wd bound k) ∧ Hid (LE wr bound v h k wA.heap.size) ∧ Hid (Blk wr (sb) 3 (setC bound v)) ∧ Hid (Fr (fun i => i = sb) wA wr)) (fun xv _ => (intOf xv).toNat)
  case atStart => exact ⟨0, _, _, rfl, .inl rfl, LE.first _ _ _, HSB.out, Fr.refl _ _⟩
  case round =>
    obtain ⟨k, v, h, rfl, hk, HE, HB, HF⟩ := hrel
    have hk2 := wd_lt hb hk
    have hwn := wd_next bound k
    have hszk := szs_le hb k
    have hpos : 1 ≤ wd bound k := by rcases hk with rfl | q; exact hb0; omega
    have hwle : wd bound k ≤ 65535 := by
      cases k with
      | zero => exact hb
      | succ k => have := szs_le hb k; show szs bound k ≤ 65535; omega
    have hszr := HF.out.size
    have HRW := Lib.hid HE.out.row
    obtain ⟨va, vc, rfl, _, _⟩ := HE.out.row.shape
    have s2 : wr.cell? ⟨sb, 2, none⟩ = some (.slice va k vc) := HB.out.cell (i := 2) (by omega)
    have sl := HB.out.lt
    have sf := HB.out.frozen 2
    have sl2 : sb < wr.heap.size + 1 := by omega
    have sl3 : sb < wr.heap.size + 1 + 1 := by omega
    have K : Hid (∀ W v' w2, Fr NoF wr W → Blk W wr.heap.size (szs bound k) (wC noneB) → wr.heap.size < W.heap.size → w2.ownsRow 0 83 1 v' (k + 1) ((List.range (k * 1)).map (rowC h bound) ++ [.slice (some ⟨wr.heap.size, 0, none⟩) (szs bound k) (szs bound k)]) → Fr (fun b => (Value.slice va k vc).ownBlock = some b) W w2 → (∀ b, v'.ownBlock = some b → (Value.slice va k vc).ownBlock = some b ∨ W.heap.size ≤ b) →
        ∃ va' vc', v' = .slice va' (k + 1) vc' ∧ w2.cell? ⟨sb, 2, none⟩ = some (.slice va k vc) ∧ w2.frozen? ⟨sb, 2, none⟩ = false ∧ sb < w2.heap.size ∧
        Hid (∃ h', LE (w2.setCell ⟨sb, 2, none⟩ v') bound v' h' (k + 1) wA.heap.size ∧ Blk (w2.setCell ⟨sb, 2, none⟩ v') (sb) 3 (setC bound v') ∧ Fr (fun i => i = sb) wA (w2.setCell ⟨sb, 2, none⟩ v'))) := by
      intro W v' w2 f1 hz hl ho f2 ho2
      obtain ⟨q1, q2⟩ := HE.out.snoc hszr hz f1 hl ho f2 ho2
      obtain ⟨va', vc', e, _, _⟩ := q1.row.shape
      have hnv : ∀ b, (Value.slice va k vc).ownBlock = some b → ¬ b = sb := fun b q e => by have := HE.out.new b (.inl q); omega
      have B2 := (HB.out.fr f1 id).fr f2 (fun q => hnv _ q rfl)
      have c2 := B2.cell (i := 2) (by omega)
      have F2 : Fr (fun i => i = sb) wA w2 := HF.out.trans (G := fun b => (Value.slice va k vc).ownBlock = some b) ((f1.mono (fun _ q => q.elim)).trans f2 (fun i q => .inl q)) (fun i q => .inr (HE.out.new i (.inl q)))
      refine ⟨va', vc', e, c2, B2.frozen 2, B2.lt, _, q1.fr ((Fr.refl (fun i => i = sb) w2).setCell (p := ⟨sb, 2, none⟩) (.inl rfl) _) (fun i q e => by have := q1.new i q; omega), (B2.set 2 v').congr (fun i hi => setC_set _ _ _ i hi), F2.setCell (p := ⟨sb, 2, none⟩) (.inl rfl) _⟩
    clear HE HF
    have hw1 : IntKind.i64.wrap ((wd bound k : Nat) + 64 : Int) = (wd bound k : Nat) + 64 := IntWalk.i64_in _ (by omega)
    have hw2 : IntKind.i64.wrap ((wd bound k : Nat) + 64 - 1 : Int) = (wd bound k : Nat) + 64 - 1 := IntWalk.i64_in _ (by omega)
    have hw3 : ((wd bound k : Nat) + 64 - 1 : Int) / 64 = (szs bound k : Nat) := by omega
    have mk : ∀ w, (Instr.makeSlice 83 (.int .i64 (((wd bound k : Nat) + 64 - 1 : Int) / 64)) (.int .i64 (((wd bound k : Nat) + 64 - 1 : Int) / 64))).run Tryz.prog w = .ok (.slice (some ⟨w.heap.size, 0, none⟩) (szs bound k) (szs bound k)) (w.alloc (.cells (madeCells #[.int .u64 0] (szs bound k)) 22)) := fun w => by rw [hw3]; exact HMK.out (szs bound k) w hszk
    have HW3 := Lib.hid hw3
    have HWK : Hid (wd bound (k + 1) = szs bound k) := rfl
    have HT : Hid (szs bound k = 1 → ∀ w' v' h', LE w' bound v' h' (k + 1) wA.heap.size → LS w' bound noneB v' h' (k + 1)) := fun q w' v' h' hle => hle.ls hb0 hb hk2 q
    clear hwn hw3
    generalize wd bound k = wk at *
    go_wp2
    go_region_law (first
      | (refine appSB (base := 0) EIw rfl (.tmp 15) (.tmp 18) rfl (by rfl) (by rfl) (Nat.zero_le _) (own_keep HRW.out (by repeat (first | exact Fr.refl NoF _ | apply Fr.drew | apply Fr.alloc)) (fun _ _ q => q)) (sl_heap (size := 1) (n := 1) (cs := #[.slice (some ⟨wr.heap.size, 0, none⟩) (szs bound k) (szs bound k)]) (by (try rw [heap_drew]); refine heap_alloc_new _ _ _ ?_; simp) (by rfl) (by unfold maxLen; omega) (by simp [Value.oneCell'])) (by unfold maxLen; omega) (by omega) ?_; intro v' w2 hown' hf' hob'; obtain ⟨va', vc', rfl, c2, f2, l2, HR⟩ := K.out _ v' w2 (by repeat (first | exact Fr.refl NoF _ | apply Fr.drew | apply Fr.alloc)) (by repeat (first | exact blk_made _ _ | apply Blk.drew | apply Blk.alloc)) (by simp <;> omega) hown' hf' hob'; clear hown' hf' hob'))
    all_goals
      obtain ⟨h', HE2, HB2, HF2⟩ := HR.out
      have HE2 := Lib.hid HE2
      have HB2 := Lib.hid HB2
      have HF2 := Lib.hid HF2
      clear HR c2 f2 l2
      generalize w2.setCell ⟨sb, 2, none⟩ (.slice va' (k + 1) vc') = w3 at *
      by_cases h1 : szs bound k = 1
      · have HLS := Lib.hid (HT.out h1 _ _ _ HE2.out)
        have hz : (((wk : Int) + 64 - 1) / 64 == 1) = true := by rw [HW3.out, h1]; rfl
        have s0 : w3.cell? ⟨sb, 0, none⟩ = some (.int .i64 bound) := HB2.out.cell (i := 0) (by omega)
        have s1 : w3.cell? ⟨sb, 1, none⟩ = some (.int .i64 0) := HB2.out.cell (i := 1) (by omega)
        have s2' : w3.cell? ⟨sb, 2, none⟩ = some (.slice va' (k + 1) vc') := HB2.out.cell (i := 2) (by omega)
        have ls := HB2.out.lt
        have RB := HRB.out.fr HF2.out (fun e => by omega)
        have HRB3 := Lib.hid RB
        have t0 : w3.cell? ⟨w.heap.size, 0, none⟩ = some (.int .i64 0) := RB.cell (i := 0) (by omega)
        have t1 : w3.cell? ⟨w.heap.size, 1, none⟩ = some (.int .i64 0) := RB.cell (i := 1) (by omega)
        have t2 : w3.cell? ⟨w.heap.size, 2, none⟩ = some (.slice none 0 0) := RB.cell (i := 2) (by omega)
        have g0 := RB.frozen 0
        have g1 := RB.frozen 1
        have g2 := RB.frozen 2
        have lr := RB.lt
        have hne : ¬ w.heap.size = sb := by omega
        clear RB h1
        have HRS : Hid (Blk (((w3.setCell ⟨w.heap.size, 0, none⟩ (.int .i64 bound)).setCell ⟨w.heap.size, 1, none⟩ (.int .i64 0)).setCell ⟨w.heap.size, 2, none⟩ (.slice va' (k + 1) vc')) w.heap.size 3 (upd (upd (upd (setC 0 (.slice none 0 0)) 0 (.int .i64 bound)) 1 (.int .i64 0)) 2 (.slice va' (k + 1) vc'))) := ((HRB3.out.set 0 _).set 1 _).set 2 _
        have F3 : Fr (fun i => i = w.heap.size) w3 (((w3.setCell ⟨w.heap.size, 0, none⟩ (.int .i64 bound)).setCell ⟨w.heap.size, 1, none⟩ (.int .i64 0)).setCell ⟨w.heap.size, 2, none⟩ (.slice va' (k + 1) vc')) := (((Fr.refl (fun i => i = w.heap.size) w3).setCell (p := ⟨w.heap.size, 0, none⟩) (.inl rfl) _).setCell (p := ⟨w.heap.size, 1, none⟩) (.inl rfl) _).setCell (p := ⟨w.heap.size, 2, none⟩) (.inl rfl) _
        have HF3 := Lib.hid F3
        clear F3
        go_wp2
        (try simp only [Exit.inBlock, Exit.then])
        refine bodyPost_ret (results_blk Tryz.results16 _ _ HRS.out rfl Tryz.underlying57 rfl (by kernel_rfl)) rfl ?_
        have hA := HA.out.size
        refine ⟨.slice va' (k + 1) vc', h', k + 1, rfl, ⟨HLS.out.r.fr HF3.out (fun i q e => by have := HE2.out.new i q; omega), HLS.out.dom⟩, fun i q => by have := HE2.out.new i q; omega, (HA.out.trans (G := fun i => i = sb) HF2.out (fun i q => .inr (by omega))).trans (G := fun i => i = w.heap.size) HF3.out (fun i q => .inr (by omega))⟩
      · have hz : (((wk : Int) + 64 - 1) / 64 == 1) = false := by
          have := HW3.out
          simp; omega
        have hpos2 := szs_pos hb0 k
        have hlt : szs bound k < wk := by have := HW3.out; omega
        have hge : 2 ≤ szs bound k := by omega
        go_wp2
        go_roundw
        case rel => exact ⟨k + 1, _, h', by rw [HWK.out, ← HW3.out], .inr (by rw [HWK.out]; exact hge), HE2.out, HB2.out, HF2.out⟩
        case measure => simp [intOf] <;> omega
end Go.Proofs.YtmpjnphnljakiaaGreatDoor
namespace Go.Proofs.YtmpjnphnljakiaaGreatDoor
open Go.RowKit
set_option linter.unusedVariables false

/-- All numbers below k. -/
def belowB (k : Nat) : Nat → Bool := fun y => decide (y < k)
theorem belowB_zero : belowB 0 = noneB := by funext y; simp [belowB, noneB]
theorem belowB_at (k : Nat) : belowB k k = false := by simp [belowB]
theorem belowB_add (k : Nat) : updB (belowB k) k true = belowB (k + 1) := by
  funext y
  by_cases e : y = k
  · subst e; rw [updB_same]; simp [belowB]
  · rw [updB_other _ _ e]; unfold belowB
    by_cases q : y < k
    · simp [q, Nat.lt_succ_of_lt q]
    · have : ¬ y < k + 1 := by omega
      simp [q, this]
theorem cntB_below (k : Nat) : ∀ n, k ≤ n → cntB (belowB k) n = k
  | 0, h => by obtain rfl : k = 0 := by omega
               rfl
  | n + 1, h => by
    unfold cntB
    by_cases e : k = n + 1
    · have e2 : cntB (belowB k) n = n := by
        rw [cntB_congr (T := belowB n) n (fun x hx => by unfold belowB; simp [hx]; omega)]
        exact cntB_below n n (Nat.le_refl _)
      rw [e2]; subst e; simp [belowB]
    · rw [cntB_below k n (by omega)]
      have : ¬ n < k := by omega
      simp [belowB, this]
def setN (bound : Nat) (n : Int) (v : Value) : Nat → Value
  | 0 => .int .i64 bound
  | 1 => .int .i64 n
  | _ => v
section
variable {w w' : World} {b off N bound L : Nat} {c : Nat → Value} {S : Nat → Bool} {v : Value} {h : Nat → Nat}
theorem LC.congr (H : LC w b off N c bound S v h L) {c' : Nat → Value} (e : ∀ i, i < N → c i = c' i) : LC w b off N c' bound S v h L :=
  ⟨H.blk.congr e, H.inb, by rw [← e _ (by have := H.inb; omega)]; exact H.c0, by rw [← e _ (by have := H.inb; omega)]; exact H.c1, by rw [← e _ (by have := H.inb; omega)]; exact H.c2, H.ls, H.nb⟩
theorem setN_set (bound : Nat) (n m : Int) (v : Value) (i : Nat) (hi : i < 3) : upd (setN bound n v) (0 + 1) (.int .i64 m) i = setN bound m v i := by
  match i, hi with
  | 0, _ => rfl
  | 1, _ => rfl
  | 2, _ => rfl
end
set_option maxHeartbeats 2000000 in
theorem full_calls (bound : Nat) (w : World) (hb0 : 1 ≤ bound) (hb : bound ≤ 65535) : Calls Tryz.prog 15 #[.int .i64 bound] w fun e w' => ∃ v h L, e = .returned (.agg #[.int .i64 bound, .int .i64 bound, v]) ∧ LS w' bound (belowB bound) v h L ∧ (∀ k, LF v h L k → w.heap.size ≤ k) ∧ Fr NoF w w' := by
  have HE : Hid (∀ W, Calls Tryz.prog 16 #[.int .i64 bound] W _) := fun W => empty_calls bound W hb0 hb
  go_enter Tryz.func15, Tryz.ntmps15
  go_wp2_with fail
  refine (HE.out _).mono ?_
  clear HE
  rintro e w1 ⟨v, h, L, rfl, hls, hnew, hf⟩
  obtain ⟨g, cap, rfl, g1, g2⟩ := hls.r.shape
  have hfs := hf.size
  simp only [World.size_alloc] at hfs
  have B0 : Blk w1 w.heap.size 3 (setN 0 0 (.slice none 0 0)) := (Blk.new _ _ _ _ _ _ rfl rfl (fun i hi => by
    match i, hi with
    | 0, _ => rfl
    | 1, _ => rfl
    | 2, _ => rfl)).fr hf id
  have F1 : Fr NoF w w1 := ((Fr.refl NoF w).alloc _).trans hf (fun _ q => .inl q)
  have HLA : Hid (LC (w1.alloc (.cells #[.int .i64 bound, .int .i64 0, .slice (some ⟨g, 0, none⟩) L cap] 57)) w1.heap.size 0 3 (setN bound 0 (.slice (some ⟨g, 0, none⟩) L cap)) bound (belowB 0) (.slice (some ⟨g, 0, none⟩) L cap) h L) := by
    refine ⟨Blk.new _ _ _ _ _ _ rfl rfl (fun i hi => by
      match i, hi with
      | 0, _ => rfl
      | 1, _ => rfl
      | 2, _ => rfl), by omega, rfl, by rw [cntB_below 0 bound (by omega)]; rfl, rfl, ⟨?_, fun x q => by simp [belowB] at q⟩, fun q => by have := hls.r.lt _ q; omega⟩
    rw [belowB_zero]
    exact hls.r.fr ((Fr.refl NoF w1).alloc _) (fun _ _ q => q)
  have HB0 := Lib.hid (B0.alloc (.cells #[.int .i64 bound, .int .i64 0, .slice (some ⟨g, 0, none⟩) L cap] 57))
  have HF1 := Lib.hid (F1.alloc (.cells #[.int .i64 bound, .int .i64 0, .slice (some ⟨g, 0, none⟩) L cap] 57))
  have HNEW := Lib.hid (fun k q => (show w.heap.size + 1 ≤ k from by have := hnew k q; simpa using this))
  clear hls hnew hf B0 F1
  go_wp2
  have hsb : w.heap.size < w1.heap.size := by omega
  generalize w1.alloc (.cells #[.int .i64 bound, .int .i64 0, .slice (some ⟨g, 0, none⟩) L cap] 57) = wA at *
  generalize w1.heap.size = sb at *
  go_loopw [8] (fun xv wr => ∃ k : Nat, k ≤ bound ∧ xv = .int .i64 k ∧ Hid (LC wr sb 0 3 (setN bound k (.slice (some ⟨g, 0, none⟩) L cap)) bound (belowB k) (.slice (some ⟨g, 0, none⟩) L cap) h L) ∧ Hid (Fr (SF sb (.slice (some ⟨g, 0, none⟩) L cap) h L) wA wr)) (fun xv _ => bound - (intOf xv).toNat)
  case atStart => exact ⟨0, Nat.zero_le _, rfl, HLA.out, Fr.refl _ _⟩
  case round =>
    obtain ⟨k, hk, rfl, HL, HF⟩ := hrel
    by_cases hlt : k < bound
    · have HADD := Lib.hid (add_in HL.out hlt (belowB_at k))
      clear HL
      go_wp2_with fail
      refine HADD.out.mono ?_
      clear HADD
      rintro e w2 ⟨rfl, h1, h2⟩
      have HL2 : Hid (LC w2 sb 0 3 (setN bound (k + 1 : Nat) (.slice (some ⟨g, 0, none⟩) L cap)) bound (belowB (k + 1)) (.slice (some ⟨g, 0, none⟩) L cap) h L) := by
        rw [cntB_below k bound hk, belowB_add] at h1
        exact h1.congr (fun i hi => setN_set _ _ _ _ i hi)
      have HF2 := Lib.hid (HF.out.trans h2 (fun _ q => .inl q))
      clear h1 h2 HF
      go_wp2
      go_roundw
      case rel => exact ⟨k + 1, by omega, by go_num, HL2.out, HF2.out⟩
      case measure => simp [intOf] <;> omega
    · obtain rfl : k = bound := by omega
      have RB := HB0.out.fr HF.out (fun q => by rcases q with q | q; omega; have := HNEW.out _ q; omega)
      have HRB := Lib.hid RB
      have s0 : wr.cell? ⟨sb, 0, none⟩ = some (.int .i64 k) := HL.out.blk.cell (i := 0) (by omega)
      have s1 : wr.cell? ⟨sb, 1, none⟩ = some (.int .i64 k) := HL.out.blk.cell (i := 1) (by omega)
      have s2 : wr.cell? ⟨sb, 2, none⟩ = some (.slice (some ⟨g, 0, none⟩) L cap) := HL.out.blk.cell (i := 2) (by omega)
      have ls := HL.out.blk.lt
      have t0 : wr.cell? ⟨w.heap.size, 0, none⟩ = some (.int .i64 0) := RB.cell (i := 0) (by omega)
      have t1 : wr.cell? ⟨w.heap.size, 1, none⟩ = some (.int .i64 0) := RB.cell (i := 1) (by omega)
      have t2 : wr.cell? ⟨w.heap.size, 2, none⟩ = some (.slice none 0 0) := RB.cell (i := 2) (by omega)
      have g0 := RB.frozen 0
      have g1' := RB.frozen 1
      have g2' := RB.frozen 2
      have lr := RB.lt
      have hne : ¬ w.heap.size = sb := by omega
      clear RB hlt
      have HRS : Hid (Blk (((wr.setCell ⟨w.heap.size, 0, none⟩ (.int .i64 k)).setCell ⟨w.heap.size, 1, none⟩ (.int .i64 k)).setCell ⟨w.heap.size, 2, none⟩ (.slice (some ⟨g, 0, none⟩) L cap)) w.heap.size 3 (upd (upd (upd (setN 0 0 (.slice none 0 0)) 0 (.int .i64 k)) 1 (.int .i64 k)) 2 (.slice (some ⟨g, 0, none⟩) L cap))) := ((HRB.out.set 0 _).set 1 _).set 2 _
      have F3 : Fr (fun i => i = w.heap.size) wr (((wr.setCell ⟨w.heap.size, 0, none⟩ (.int .i64 k)).setCell ⟨w.heap.size, 1, none⟩ (.int .i64 k)).setCell ⟨w.heap.size, 2, none⟩ (.slice (some ⟨g, 0, none⟩) L cap)) := (((Fr.refl (fun i => i = w.heap.size) wr).setCell (p := ⟨w.heap.size, 0, none⟩) (.inl rfl) _).setCell (p := ⟨w.heap.size, 1, none⟩) (.inl rfl) _).setCell (p := ⟨w.heap.size, 2, none⟩) (.inl rfl) _
      have HF3 := Lib.hid F3
      clear F3
      go_wp2
      (try simp only [Exit.inBlock, Exit.then])
      refine bodyPost_ret (results_blk Tryz.results15 _ _ HRS.out rfl Tryz.underlying57 rfl (by kernel_rfl)) rfl ?_
      refine ⟨.slice (some ⟨g, 0, none⟩) L cap, h, L, rfl, ⟨HL.out.ls.r.fr HF3.out (fun i q e => by have := HNEW.out i q; omega), HL.out.ls.dom⟩, fun i q => by have := HNEW.out i q; omega, ((HF1.out.trans (G := SF sb (.slice (some ⟨g, 0, none⟩) L cap) h L) HF.out (fun i q => .inr (by rcases q with q | q; omega; have := HNEW.out i q; omega))).trans (G := fun i => i = w.heap.size) HF3.out (fun i q => .inr (by omega)))⟩
end Go.Proofs.YtmpjnphnljakiaaGreatDoor
namespace Go.Proofs.YtmpjnphnljakiaaGreatDoor
open Go.RowKit
set_option linter.unusedVariables false
set_option linter.unusedSimpArgs false

/-- recover, where nothing panics. -/
theorem tell_idle (w : World) : CallsD Tryz.prog 75 #[] .returning w fun e u' w' => e = .returned (.tuple #[]) ∧ u' = .returning ∧ w' = w := by
  refine callsD_of_wpS Tryz.func75 rfl fun c₀ cs hu => ?_
  apply wpS_region
  simp [wpOpsS, go_sem, recoverD, hu, Tryz.ntmps75, Exit.thenS]
  cases c₀
  simp_all [bodyPostS, results, Tryz.results75, Exit.thenS, go_sem]
theorem ask_idle (w : World) : CallsD Tryz.prog 89 #[] .returning w fun e u' w' => e = .returned (.tuple #[]) ∧ u' = .returning ∧ w' = w := by
  refine callsD_of_wpS Tryz.func89 rfl fun c₀ cs hu => ?_
  apply wpS_region
  simp [wpOpsS, go_sem, recoverD, hu, Tryz.ntmps89, Exit.thenS]
  cases c₀
  simp_all [bodyPostS, results, Tryz.results89, Exit.thenS, go_sem]
/-- A function of the program itself. -/
def Own (g : FuncId) : Prop := ∀ (args : Array Value) (w : World), (callFunc g args).run Tryz.prog w = .ok (.enter g args) w
section
variable {w : World} {pb : Nat} {g : FuncId} {rv : Value}
set_option maxRecDepth 100000 in
/-- What is told is a closure over one variable. -/
theorem tell_one {c1 : Value} {Q : World → Prop} (ho : Own g) (hr : w.cell? ⟨pb, 1, none⟩ = some rv) (hlt : pb < w.heap.size) (hc : Calls Tryz.prog g #[rv, c1] w fun e w' => e = .returned (.tuple #[]) ∧ Q w') :
    Calls Tryz.prog 55 #[.pointer (some ⟨pb, 0, none⟩), .func (.func g) #[] #[c1]] w fun e w' => e = .returned (.tuple #[]) ∧ Q w' := by
  have HC := Lib.hid hc
  have HO := Lib.hid ho
  clear hc ho
  go_enter_defers Tryz.func55, Tryz.ntmps55
  go_wp2_with fail
  rw [HO.out, Oper.upon_enter]
  refine HC.out.mono ?_
  rintro e w1 ⟨rfl, hq⟩
  have HQ := Lib.hid hq
  clear hq
  go_wp2
  refine leaves_cons (f := 75) (args := #[]) (by simp) (by simp [go_sem]) ?_
  refine (tell_idle _).mono ?_
  rintro e u' w'' ⟨rfl, rfl, rfl⟩
  simp [Leaves, settle, results, Tryz.results55, go_sem]
  exact HQ.out
set_option maxRecDepth 100000 in
/-- What is told is a closure over two. -/
theorem tell_two {c1 c2 : Value} {Q : World → Prop} (ho : Own g) (hr : w.cell? ⟨pb, 1, none⟩ = some rv) (hlt : pb < w.heap.size) (hc : Calls Tryz.prog g #[rv, c1, c2] w fun e w' => e = .returned (.tuple #[]) ∧ Q w') :
    Calls Tryz.prog 55 #[.pointer (some ⟨pb, 0, none⟩), .func (.func g) #[] #[c1, c2]] w fun e w' => e = .returned (.tuple #[]) ∧ Q w' := by
  have HC := Lib.hid hc
  have HO := Lib.hid ho
  clear hc ho
  go_enter_defers Tryz.func55, Tryz.ntmps55
  go_wp2_with fail
  rw [HO.out, Oper.upon_enter]
  refine HC.out.mono ?_
  rintro e w1 ⟨rfl, hq⟩
  have HQ := Lib.hid hq
  clear hq
  go_wp2
  refine leaves_cons (f := 75) (args := #[]) (by simp) (by simp [go_sem]) ?_
  refine (tell_idle _).mono ?_
  rintro e u' w'' ⟨rfl, rfl, rfl⟩
  simp [Leaves, settle, results, Tryz.results55, go_sem]
  exact HQ.out
end
end Go.Proofs.YtmpjnphnljakiaaGreatDoor
namespace Go.Proofs.YtmpjnphnljakiaaGreatDoor
open Go.RowKit Go.Maps
set_option linter.unusedVariables false

/-- What a frame has; id 0: it is empty. -/
structure FrS where
  id : Nat
  val : Nat
  pins : Nat
  dirty : Bool
def zF : FrS := ⟨0, 0, 0, false⟩
def frX (x : FrS) (j : Nat) : Value := match j with
  | 0 => .int .u32 x.id
  | 1 => .int .u64 x.val
  | 2 => .int .i64 x.pins
  | _ => .bool x.dirty
def frV (f : Nat → FrS) (i : Nat) : Value := frX (f (i / 4)) (i % 4)
theorem frV_at (f : Nat → FrS) (k : Nat) {j : Nat} (hj : j < 4) : frV f (k * 4 + j) = frX (f k) j := by
  unfold frV
  rw [show (k * 4 + j) / 4 = k from by omega, show (k * 4 + j) % 4 = j from by omega]
theorem frV_0 (f : Nat → FrS) (k : Nat) : frV f (k * 4) = .int .u32 (f k).id := frV_at f k (j := 0) (by omega)
theorem frV_1 (f : Nat → FrS) (k : Nat) : frV f (k * 4 + 1) = .int .u64 (f k).val := frV_at f k (j := 1) (by omega)
theorem frV_2 (f : Nat → FrS) (k : Nat) : frV f (k * 4 + 2) = .int .i64 (f k).pins := frV_at f k (j := 2) (by omega)
theorem frV_3 (f : Nat → FrS) (k : Nat) : frV f (k * 4 + 3) = .bool (f k).dirty := frV_at f k (j := 3) (by omega)
/-- A cell of a frame is written. -/
theorem frV_set (f : Nat → FrS) (k : Nat) {j : Nat} (hj : j < 4) (x : FrS) (u : Value) (hu : u = frX x j) (ho : ∀ i, i < 4 → ¬ i = j → frX x i = frX (f k) i) : upd (frV f) (k * 4 + j) u = frV (upd f k x) := by
  funext i
  by_cases e : i = k * 4 + j
  · subst e; rw [upd_same, frV_at _ _ hj, upd_same, hu]
  · rw [upd_other _ _ e]
    unfold frV
    by_cases e2 : i / 4 = k
    · rw [e2, upd_same, ho _ (by omega) (by omega)]
    · rw [upd_other _ _ e2]
theorem frV_setp (f : Nat → FrS) (k p : Nat) : upd (frV f) (k * 4 + 2) (.int .i64 (p : Nat)) = frV (upd f k { f k with pins := p }) :=
  frV_set f k (by omega) _ _ rfl (fun i hi h => by
    match i, hi, h with
    | 0, _, _ => rfl
    | 1, _, _ => rfl
    | 2, _, h => exact absurd rfl h
    | 3, _, _ => rfl)
theorem frV_setd (f : Nat → FrS) (k : Nat) (b : Bool) : upd (frV f) (k * 4 + 3) (.bool b) = frV (upd f k { f k with dirty := b }) :=
  frV_set f k (by omega) _ _ rfl (fun i hi h => by
    match i, hi, h with
    | 0, _, _ => rfl
    | 1, _, _ => rfl
    | 2, _, _ => rfl
    | 3, _, h => exact absurd rfl h)
theorem frV_setv (f : Nat → FrS) (k v : Nat) : upd (frV f) (k * 4 + 1) (.int .u64 (v : Nat)) = frV (upd f k { f k with val := v }) :=
  frV_set f k (by omega) _ _ rfl (fun i hi h => by
    match i, hi, h with
    | 0, _, _ => rfl
    | 1, _, h => exact absurd rfl h
    | 2, _, _ => rfl
    | 3, _, _ => rfl)
/-- A frame is written whole. -/
theorem frV_all (f : Nat → FrS) (k : Nat) (x : FrS) : upd (upd (upd (upd (frV f) (k * 4) (.int .u32 (x.id : Nat))) (k * 4 + 1) (.int .u64 (x.val : Nat))) (k * 4 + 2) (.int .i64 (x.pins : Nat))) (k * 4 + 3) (.bool x.dirty) = frV (upd f k x) := by
  funext i
  by_cases e2 : i / 4 = k
  · have h4 : i = k * 4 ∨ i = k * 4 + 1 ∨ i = k * 4 + 2 ∨ i = k * 4 + 3 := by omega
    rcases h4 with rfl | rfl | rfl | rfl
    · rw [frV_0, upd_same, upd_other _ _ (by omega), upd_other _ _ (by omega), upd_other _ _ (by omega), upd_same]
    · rw [frV_1, upd_same, upd_other _ _ (by omega), upd_other _ _ (by omega), upd_same]
    · rw [frV_2, upd_same, upd_other _ _ (by omega), upd_same]
    · rw [frV_3, upd_same, upd_same]
  · rw [upd_other _ _ (by omega), upd_other _ _ (by omega), upd_other _ _ (by omega), upd_other _ _ (by omega)]
    unfold frV
    rw [upd_other _ _ e2]

/-- Where pages are: a frame, or -1; none: there is no such page. -/
def plV (pl : Nat → Option Int) : Int → Option Value := fun x => if x < 0 then none else (pl x.toNat).map (Value.int .i64)
def updO (pl : Nat → Option Int) (id : Nat) (x : Option Int) : Nat → Option Int := fun y => if y = id then x else pl y
theorem updO_same (pl : Nat → Option Int) (id : Nat) (x : Option Int) : updO pl id x id = x := by simp [updO]
theorem updO_other (pl : Nat → Option Int) {id y : Nat} (x : Option Int) (h : ¬ y = id) : updO pl id x y = pl y := by simp [updO, h]
theorem plV_at (pl : Nat → Option Int) (id : Nat) : plV pl (id : Int) = (pl id).map (Value.int .i64) := by
  unfold plV
  rw [if_neg (by omega)]; rfl
theorem plV_upd (pl : Nat → Option Int) (id : Nat) (x : Option Int) : updV (plV pl) (id : Int) (x.map (Value.int .i64)) = plV (updO pl id x) := by
  funext z
  by_cases e : z = (id : Int)
  · subst e; rw [updV_same, plV_at, updO_same]
  · rw [updV_other _ _ e]
    unfold plV
    by_cases h : z < 0
    · rw [if_pos h, if_pos h]
    · rw [if_neg h, if_neg h, updO_other _ _ (by omega)]
theorem MVi : MV Tryz.prog 54 44 3 .u32 (.int .i64 0) := ⟨Tryz.underlying54, Tryz.underlying44, fun w => by kernel_rfl⟩

/-- Where a Pool's things lie. -/
structure PP where
  n : Nat
  pb : Nat
  db : Nat
  fb : Nat
  mb : Nat
  rv : Value
  ev : Value
  eh : Nat → Nat
  eL : Nat
  iv : Value
  ih : Nat → Nat
  iL : Nat
/-- Its own blocks. -/
def PP.own (p : PP) (i : Nat) : Prop := i = p.pb ∨ i = p.fb ∨ i = p.mb ∨ LF p.ev p.eh p.eL i ∨ LF p.iv p.ih p.iL i
def PP.ptr (p : PP) : Value := .pointer (some ⟨p.pb, 0, none⟩)
/-- Its head's cells: ce, ci: how many are in either set; sc: scans. -/
def pH (p : PP) (ce ci sc : Nat) (i : Nat) : Value := match i with
  | 0 => .pointer (some ⟨p.db, 0, none⟩)
  | 1 => p.rv
  | 2 => .slice (some ⟨p.fb, 0, none⟩) p.n p.n
  | 3 => .map (some p.mb)
  | 4 => .int .i64 p.n
  | 5 => .int .i64 ce
  | 6 => p.ev
  | 7 => .int .i64 p.n
  | 8 => .int .i64 ci
  | 9 => p.iv
  | _ => .int .i64 sc
theorem pH_5 (p : PP) (ce ci sc x : Nat) : upd (pH p ce ci sc) 5 (.int .i64 (x : Nat)) = pH p x ci sc := by
  funext j
  match j with
  | 0 => rfl
  | 1 => rfl
  | 2 => rfl
  | 3 => rfl
  | 4 => rfl
  | 5 => rfl
  | 6 => rfl
  | 7 => rfl
  | 8 => rfl
  | 9 => rfl
  | j + 10 => simp [upd, pH]
theorem pH_8 (p : PP) (ce ci sc x : Nat) : upd (pH p ce ci sc) 8 (.int .i64 (x : Nat)) = pH p ce x sc := by
  funext j
  match j with
  | 0 => rfl
  | 1 => rfl
  | 2 => rfl
  | 3 => rfl
  | 4 => rfl
  | 5 => rfl
  | 6 => rfl
  | 7 => rfl
  | 8 => rfl
  | 9 => rfl
  | j + 10 => simp [upd, pH]
theorem pH_10 (p : PP) (ce ci sc x : Nat) : ∀ i, i < 11 → upd (pH p ce ci sc) 10 (.int .i64 (x : Nat)) i = pH p ce ci x i := by
  intro j hj
  match j with
  | 0 => rfl
  | 1 => rfl
  | 2 => rfl
  | 3 => rfl
  | 4 => rfl
  | 5 => rfl
  | 6 => rfl
  | 7 => rfl
  | 8 => rfl
  | 9 => rfl
  | 10 => rfl
  | j + 11 => omega
/-- A Pool's own memory: f the frames, pl the places, E the empty ones, I the idle ones, sc scans; m: more than what is counted. -/
structure MP (w : World) (p : PP) (f : Nat → FrS) (pl : Nat → Option Int) (E I : Nat → Bool) (sc m : Nat) : Prop where
  hd : Blk w p.pb 11 (pH p (cntB E p.n) (cntB I p.n) sc)
  fr : Blk w p.fb (p.n * 4) (frV f)
  mp : ∃ c, c ≤ m ∧ MpV Tryz.prog 44 .u32 (.int .i64 0) w p.mb c (plV pl)
  se : LS w p.n E p.ev p.eh p.eL
  si : LS w p.n I p.iv p.ih p.iL
  d1 : ¬ p.fb = p.pb ∧ ¬ p.mb = p.pb ∧ ¬ p.mb = p.fb
  d2 : ∀ i, LF p.ev p.eh p.eL i → ¬ i = p.pb ∧ ¬ i = p.fb ∧ ¬ i = p.mb ∧ ¬ LF p.iv p.ih p.iL i
  d3 : ∀ i, LF p.iv p.ih p.iL i → ¬ i = p.pb ∧ ¬ i = p.fb ∧ ¬ i = p.mb
  tab : TabT w
  nt : ¬ p.own 0
  bd : sc ≤ m ∧ ∀ i, (f i).id < 4294967296 ∧ (f i).val < 18446744073709551616 ∧ (f i).pins ≤ m
section
variable {w w' : World} {p : PP} {f : Nat → FrS} {pl : Nat → Option Int} {E I : Nat → Bool} {sc m : Nat}
theorem MP.hn (H : MP w p f pl E I sc m) : 1 ≤ p.n ∧ p.n ≤ 65535 := ⟨H.se.r.lo, H.se.r.hi⟩
theorem MP.fro (H : MP w p f pl E I sc m) {G : Nat → Prop} (g : Fr G w w') (hG : ∀ i, p.own i → ¬ G i) (ht : ¬ G 0) : MP w' p f pl E I sc m := by
  obtain ⟨c, hc, hm⟩ := H.mp
  exact ⟨H.hd.fr g (hG _ (.inl rfl)), H.fr.fr g (hG _ (.inr (.inl rfl))), ⟨c, hc, hm.fr g (hG _ (.inr (.inr (.inl rfl))))⟩, ⟨H.se.r.fr g (fun k q => hG k (.inr (.inr (.inr (.inl q))))), H.se.dom⟩, ⟨H.si.r.fr g (fun k q => hG k (.inr (.inr (.inr (.inr q))))), H.si.dom⟩, H.d1, H.d2, H.d3, H.tab.fr g ht, H.nt, H.bd⟩
theorem MP.fr0 (H : MP w p f pl E I sc m) (g : Fr NoF w w') : MP w' p f pl E I sc m := H.fro g (fun _ _ q => q) id
theorem MP.lt (H : MP w p f pl E I sc m) : ∀ i, p.own i → i < w.heap.size := by
  obtain ⟨c, hc, hm⟩ := H.mp
  rintro i (rfl | rfl | rfl | q | q)
  · exact H.hd.lt
  · exact H.fr.lt
  · exact hm.lt
  · exact H.se.r.lt i q
  · exact H.si.r.lt i q
theorem MP.more (H : MP w p f pl E I sc m) {k : Nat} (hk : m ≤ k) : MP w p f pl E I sc k := by
  obtain ⟨c, hc, hm⟩ := H.mp
  exact ⟨H.hd, H.fr, ⟨c, by omega, hm⟩, H.se, H.si, H.d1, H.d2, H.d3, H.tab, H.nt, by have := H.bd.1; omega, fun i => ⟨(H.bd.2 i).1, (H.bd.2 i).2.1, by have := (H.bd.2 i).2.2; omega⟩⟩
theorem MP.ce (H : MP w p f pl E I sc m) (i : Nat) (hi : i < 11) : w.cell? ⟨p.pb, i, none⟩ = some (pH p (cntB E p.n) (cntB I p.n) sc i) := H.hd.cell hi
theorem MP.cf (H : MP w p f pl E I sc m) {k : Nat} (hk : k < p.n) : w.cell? ⟨p.fb, k * 4, none⟩ = some (.int .u32 (f k).id) ∧ w.cell? ⟨p.fb, k * 4 + 1, none⟩ = some (.int .u64 (f k).val) ∧ w.cell? ⟨p.fb, k * 4 + 2, none⟩ = some (.int .i64 (f k).pins) ∧ w.cell? ⟨p.fb, k * 4 + 3, none⟩ = some (.bool (f k).dirty) := by
  have h0 := H.fr.cell (i := k * 4) (by omega)
  have h1 := H.fr.cell (i := k * 4 + 1) (by omega)
  have h2 := H.fr.cell (i := k * 4 + 2) (by omega)
  have h3 := H.fr.cell (i := k * 4 + 3) (by omega)
  rw [frV_0] at h0; rw [frV_1] at h1; rw [frV_2] at h2; rw [frV_3] at h3
  exact ⟨h0, h1, h2, h3⟩
theorem MP.cE (H : MP w p f pl E I sc m) : LC w p.pb 4 11 (pH p (cntB E p.n) (cntB I p.n) sc) p.n E p.ev p.eh p.eL := ⟨H.hd, by omega, rfl, rfl, rfl, H.se, fun q => (H.d2 _ q).1 rfl⟩
theorem MP.cI (H : MP w p f pl E I sc m) : LC w p.pb 7 11 (pH p (cntB E p.n) (cntB I p.n) sc) p.n I p.iv p.ih p.iL := ⟨H.hd, by omega, rfl, rfl, rfl, H.si, fun q => (H.d3 _ q).1 rfl⟩
theorem wf_u {id : Nat} (h : id < 4294967296) : (Lit.int .u32 (id : Nat)).wf = true := WalkArith.wf_u32 ⟨by omega, by omega⟩
/-- What 'places[id]' is. -/
theorem MP.look (H : MP w p f pl E I sc m) {id : Nat} (hid : id < 4294967296) : (Instr.lookup 54 (.map (some p.mb)) (.int .u32 (id : Nat)) true).run Tryz.prog w = .ok (.tuple #[.int .i64 ((pl id).getD 0), .bool (pl id).isSome]) w := by
  obtain ⟨c, hc, hm⟩ := H.mp
  have := hm.look_ok_run MVi (wf_u hid)
  rw [plV_at] at this
  rw [this]
  cases pl id <;> rfl
/-- 'places[id] = x'. -/
theorem MP.put (H : MP w p f pl E I sc m) (hm : m < 900000) {id : Nat} (hid : id < 4294967296) (x : Int) : ∃ w', (Instr.mapUpdate 54 (.map (some p.mb)) (.int .u32 (id : Nat)) (.int .i64 x)).run Tryz.prog w = .ok () w' ∧ MP w' p f (updO pl id (some x)) E I sc (m + 1) ∧ Fr (fun i => i = p.mb) w w' := by
  obtain ⟨c, hc, hm⟩ := H.mp
  obtain ⟨w', h1, h2, h3⟩ := hm.put_run MVi (by omega) (wf_u hid) (.int .i64 x)
  have h4 := plV_upd pl id (some x)
  simp only [Option.map_some] at h4
  rw [h4] at h2
  refine ⟨w', h1, ⟨H.hd.fr h3 (fun q => H.d1.2.1 q.symm), H.fr.fr h3 (fun q => H.d1.2.2 q.symm), ⟨_, ?_, h2⟩, ⟨H.se.r.fr h3 (fun k q e => (H.d2 k q).2.2.1 e), H.se.dom⟩, ⟨H.si.r.fr h3 (fun k q e => (H.d3 k q).2.2 e), H.si.dom⟩, H.d1, H.d2, H.d3, H.tab.fr h3 (fun e => H.nt (.inr (.inr (.inl e)))), H.nt, by have := H.bd.1; omega, fun i => ⟨(H.bd.2 i).1, (H.bd.2 i).2.1, by have := (H.bd.2 i).2.2; omega⟩⟩, h3⟩
  split <;> omega
theorem MP.del (H : MP w p f pl E I sc m) {id : Nat} (hid : id < 4294967296) (ty : TypeId) : ∃ w', (Builtin.delete_ #[54, 44] ty #[.map (some p.mb), .int .u32 (id : Nat)]).run Tryz.prog w = .ok (.tuple #[]) w' ∧ MP w' p f (updO pl id none) E I sc m ∧ Fr (fun i => i = p.mb) w w' := by
  obtain ⟨c, hc, hm⟩ := H.mp
  obtain ⟨w', h1, h2, h3⟩ := hm.del_run MVi (wf_u hid) ty
  have h4 := plV_upd pl id none
  simp only [Option.map_none] at h4
  rw [h4] at h2
  refine ⟨w', h1, ⟨H.hd.fr h3 (fun q => H.d1.2.1 q.symm), H.fr.fr h3 (fun q => H.d1.2.2 q.symm), ⟨_, ?_, h2⟩, ⟨H.se.r.fr h3 (fun k q e => (H.d2 k q).2.2.1 e), H.se.dom⟩, ⟨H.si.r.fr h3 (fun k q e => (H.d3 k q).2.2 e), H.si.dom⟩, H.d1, H.d2, H.d3, H.tab.fr h3 (fun e => H.nt (.inr (.inr (.inl e)))), H.nt, H.bd⟩, h3⟩
  split <;> omega
/-- The frames' cells are written. -/
theorem MP.frs (H : MP w p f pl E I sc m) {f' : Nat → FrS} (hb : Blk w' p.fb (p.n * 4) (frV f')) (g : Fr (fun i => i = p.fb) w w') {m' : Nat} (hm : m ≤ m') (hk : ∀ i, (f' i).id < 4294967296 ∧ (f' i).val < 18446744073709551616 ∧ (f' i).pins ≤ m') : MP w' p f' pl E I sc m' := by
  obtain ⟨c, hc, hm⟩ := H.mp
  exact ⟨H.hd.fr g (fun q => H.d1.1 q.symm), hb, ⟨c, by omega, hm.fr g (fun q => H.d1.2.2 q)⟩, ⟨H.se.r.fr g (fun k q e => (H.d2 k q).2.1 e), H.se.dom⟩, ⟨H.si.r.fr g (fun k q e => (H.d3 k q).2.1 e), H.si.dom⟩, H.d1, H.d2, H.d3, H.tab.fr g (fun e => H.nt (.inr (.inl e))), H.nt, by have := H.bd.1; omega, hk⟩
/-- Scans are written. -/
theorem MP.scan (H : MP w p f pl E I sc m) {x m' : Nat} (hx : x ≤ m') (hm : m ≤ m') : MP (w.setCell ⟨p.pb, 10, none⟩ (.int .i64 (x : Nat))) p f pl E I x m' ∧ Fr (fun i => i = p.pb) w (w.setCell ⟨p.pb, 10, none⟩ (.int .i64 (x : Nat))) := by
  have g : Fr (fun i => i = p.pb) w (w.setCell ⟨p.pb, 10, none⟩ (.int .i64 (x : Nat))) := (Fr.refl (fun i => i = p.pb) w).setCell (p := ⟨p.pb, 10, none⟩) (.inl rfl) _
  obtain ⟨c, hc, hm⟩ := H.mp
  exact ⟨⟨(H.hd.set _ _).congr (pH_10 p _ _ _ _), H.fr.fr g (fun q => H.d1.1 q), ⟨c, by omega, hm.fr g (fun q => H.d1.2.1 q)⟩, ⟨H.se.r.fr g (fun k q e => (H.d2 k q).1 e), H.se.dom⟩, ⟨H.si.r.fr g (fun k q e => (H.d3 k q).1 e), H.si.dom⟩, H.d1, H.d2, H.d3, H.tab.fr g (fun e => H.nt (.inl e)), H.nt, hx, fun i => ⟨(H.bd.2 i).1, (H.bd.2 i).2.1, by have := (H.bd.2 i).2.2; omega⟩⟩, g⟩
/-- The sets' calls. -/
theorem mp_lenE (H : MP w p f pl E I sc m) : Calls Tryz.prog 59 #[.pointer (some ⟨p.pb, 4, none⟩)] w fun e w' => e = .returned (.int .i64 (cntB E p.n : Nat)) ∧ w = w' := len_calls H.cE
theorem mp_lenI (H : MP w p f pl E I sc m) : Calls Tryz.prog 59 #[.pointer (some ⟨p.pb, 7, none⟩)] w fun e w' => e = .returned (.int .i64 (cntB I p.n : Nat)) ∧ w = w' := len_calls H.cI
theorem mp_hasI (H : MP w p f pl E I sc m) (x : Int) : Calls Tryz.prog 25 #[.pointer (some ⟨p.pb, 7, none⟩), .int .i64 x] w fun e w' => e = .returned (.bool (hasZ I x)) ∧ w = w' := has_calls H.cI x
theorem mp_firstE (H : MP w p f pl E I sc m) : Calls Tryz.prog 62 #[.pointer (some ⟨p.pb, 4, none⟩)] w fun e w' => w = w' ∧ ((cntB E p.n = 0 ∧ (∀ x, E x = false) ∧ e = .returned (.int .i64 (-1))) ∨ ∃ x, x < p.n ∧ IsLeast E x ∧ e = .returned (.int .i64 (x : Nat))) := first_calls H.tab H.cE
theorem mp_firstI (H : MP w p f pl E I sc m) : Calls Tryz.prog 62 #[.pointer (some ⟨p.pb, 7, none⟩)] w fun e w' => w = w' ∧ ((cntB I p.n = 0 ∧ (∀ x, I x = false) ∧ e = .returned (.int .i64 (-1))) ∨ ∃ x, x < p.n ∧ IsLeast I x ∧ e = .returned (.int .i64 (x : Nat))) := first_calls H.tab H.cI
theorem MP.setE (H : MP w p f pl E I sc m) {c : Nat → Value} {E' : Nat → Bool} (h : LC w' p.pb 4 11 c p.n E' p.ev p.eh p.eL) (hc : c = pH p (cntB E' p.n) (cntB I p.n) sc) (g : Fr (SF p.pb p.ev p.eh p.eL) w w') : MP w' p f pl E' I sc m ∧ Fr p.own w w' := by
  subst hc
  obtain ⟨c, hc, hm⟩ := H.mp
  refine ⟨⟨h.blk, H.fr.fr g ?_, ⟨c, hc, hm.fr g ?_⟩, h.ls, ⟨H.si.r.fr g ?_, H.si.dom⟩, H.d1, H.d2, H.d3, H.tab.fr g ?_, H.nt, H.bd⟩, g.mono ?_⟩
  · rintro (q | q)
    · exact H.d1.1 q
    · exact (H.d2 _ q).2.1 rfl
  · rintro (q | q)
    · exact H.d1.2.1 q
    · exact (H.d2 _ q).2.2.1 rfl
  · rintro k q (e | e)
    · exact (H.d3 k q).1 e
    · exact (H.d2 _ e).2.2.2 q
  · rintro (q | q)
    · exact H.nt (.inl q)
    · exact H.nt (.inr (.inr (.inr (.inl q))))
  · rintro i (q | q)
    · exact .inl q
    · exact .inr (.inr (.inr (.inl q)))
theorem MP.setI (H : MP w p f pl E I sc m) {c : Nat → Value} {I' : Nat → Bool} (h : LC w' p.pb 7 11 c p.n I' p.iv p.ih p.iL) (hc : c = pH p (cntB E p.n) (cntB I' p.n) sc) (g : Fr (SF p.pb p.iv p.ih p.iL) w w') : MP w' p f pl E I' sc m ∧ Fr p.own w w' := by
  subst hc
  obtain ⟨c, hc, hm⟩ := H.mp
  refine ⟨⟨h.blk, H.fr.fr g ?_, ⟨c, hc, hm.fr g ?_⟩, ⟨H.se.r.fr g ?_, H.se.dom⟩, h.ls, H.d1, H.d2, H.d3, H.tab.fr g ?_, H.nt, H.bd⟩, g.mono ?_⟩
  · rintro (q | q)
    · exact H.d1.1 q
    · exact (H.d3 _ q).2.1 rfl
  · rintro (q | q)
    · exact H.d1.2.1 q
    · exact (H.d3 _ q).2.2 rfl
  · rintro k q (e | e)
    · exact (H.d2 k q).1 e
    · exact (H.d2 k q).2.2.2 e
  · rintro (q | q)
    · exact H.nt (.inl q)
    · exact H.nt (.inr (.inr (.inr (.inr q))))
  · rintro i (q | q)
    · exact .inl q
    · exact .inr (.inr (.inr (.inr q)))
theorem updB_id {S : Nat → Bool} {x : Nat} {b : Bool} (h : S x = b) : updB S x b = S := by
  funext y
  by_cases e : y = x
  · subst e; rw [updB_same, h]
  · rw [updB_other _ _ e]
theorem mp_addE (H : MP w p f pl E I sc m) {k : Nat} (hk : k < p.n) (hE : E k = false) : Calls Tryz.prog 22 #[.pointer (some ⟨p.pb, 4, none⟩), .int .i64 k] w fun e w' => e = .returned (.tuple #[]) ∧ MP w' p f pl (updB E k true) I sc m ∧ Fr p.own w w' :=
  (add_in H.cE hk hE).mono fun e w' ⟨he, h, g⟩ => ⟨he, H.setE h (by rw [show 4 + 1 = 5 from rfl, show ((cntB E p.n : Nat) + 1 : Int) = ((cntB (updB E k true) p.n : Nat) : Int) from by rw [cntB_add E hE p.n hk]; omega]; exact pH_5 _ _ _ _ _) g⟩
theorem mp_addI (H : MP w p f pl E I sc m) {k : Nat} (hk : k < p.n) (hE : I k = false) : Calls Tryz.prog 22 #[.pointer (some ⟨p.pb, 7, none⟩), .int .i64 k] w fun e w' => e = .returned (.tuple #[]) ∧ MP w' p f pl E (updB I k true) sc m ∧ Fr p.own w w' :=
  (add_in H.cI hk hE).mono fun e w' ⟨he, h, g⟩ => ⟨he, H.setI h (by rw [show 7 + 1 = 8 from rfl, show ((cntB I p.n : Nat) + 1 : Int) = ((cntB (updB I k true) p.n : Nat) : Int) from by rw [cntB_add I hE p.n hk]; omega]; exact pH_8 _ _ _ _ _) g⟩
theorem mp_dropE (H : MP w p f pl E I sc m) {k : Nat} (hk : k < p.n) : Calls Tryz.prog 69 #[.pointer (some ⟨p.pb, 4, none⟩), .int .i64 k] w fun e w' => e = .returned (.tuple #[]) ∧ MP w' p f pl (updB E k false) I sc m ∧ Fr p.own w w' := by
  cases hE : E k with
  | false =>
    rw [updB_id hE]
    refine (drop_no H.cE (x := (k : Int)) (by unfold hasZ; rw [if_neg (by omega)]; exact hE)).mono ?_
    rintro e w' ⟨he, rfl⟩
    exact ⟨he, H, Fr.refl _ _⟩
  | true =>
    have hq := cntB_drop E hE p.n hk
    exact (drop_in H.cE hE).mono fun e w' ⟨he, h, g⟩ => ⟨he, H.setE h (by rw [show 4 + 1 = 5 from rfl, show ((cntB E p.n : Nat) - 1 : Int) = ((cntB (updB E k false) p.n : Nat) : Int) from by omega]; exact pH_5 _ _ _ _ _) g⟩
theorem mp_dropI (H : MP w p f pl E I sc m) {k : Nat} (hk : k < p.n) : Calls Tryz.prog 69 #[.pointer (some ⟨p.pb, 7, none⟩), .int .i64 k] w fun e w' => e = .returned (.tuple #[]) ∧ MP w' p f pl E (updB I k false) sc m ∧ Fr p.own w w' := by
  cases hE : I k with
  | false =>
    rw [updB_id hE]
    refine (drop_no H.cI (x := (k : Int)) (by unfold hasZ; rw [if_neg (by omega)]; exact hE)).mono ?_
    rintro e w' ⟨he, rfl⟩
    exact ⟨he, H, Fr.refl _ _⟩
  | true =>
    have hq := cntB_drop I hE p.n hk
    exact (drop_in H.cI hE).mono fun e w' ⟨he, h, g⟩ => ⟨he, H.setI h (by rw [show 7 + 1 = 8 from rfl, show ((cntB I p.n : Nat) - 1 : Int) = ((cntB (updB I k false) p.n : Nat) : Int) from by omega]; exact pH_8 _ _ _ _ _) g⟩
end
end Go.Proofs.YtmpjnphnljakiaaGreatDoor
namespace Go.Proofs.YtmpjnphnljakiaaGreatDoor
open Go.RowKit
set_option linter.unusedVariables false

/-- A Replacer as functions; aft: what there is behind a victim's being asked for. -/
structure Adv (σ : Type) where
  miss : σ → Nat → σ
  access : σ → Nat → Nat → σ
  set : σ → Nat → Bool → σ
  victim : σ → Nat → Option Nat
  aft : σ → Nat → σ
  remove : σ → Nat → σ
/-- It was told something: it is s' now. -/
def Tld {τ : Type} (RR : World → τ → (Nat → Prop) → Prop) (s' : τ) (F : Nat → Prop) (w w' : World) : Prop := ∃ F', RR w' s' F' ∧ Fr F w w' ∧ ∀ i, F' i → F i ∨ w.heap.size ≤ i
/-- Is there a page in a frame that may go? -/
def Goer (n : Nat) (pg : Nat → Nat) (ev : Nat → Bool) (x : Nat) : Prop := x < n ∧ ¬ pg x = 0 ∧ ev x = true
/-- ok m s pg ev: behind at most m things it was told, s may stand so, where frames have the pages pg (0: none), of which ev may go. -/
structure RepSys {τ : Type} (P : Adv τ) (RR : World → τ → (Nat → Prop) → Prop) (pb : Nat) (rv : Value) (n : Nat) (ok : Nat → τ → (Nat → Nat) → (Nat → Bool) → Prop) : Prop where
  fr : ∀ {w w' : World} {s : τ} {F G : Nat → Prop}, RR w s F → Fr G w w' → (∀ i, F i → ¬ G i) → RR w' s F
  lt : ∀ {w : World} {s : τ} {F : Nat → Prop}, RR w s F → ∀ i, F i → i < w.heap.size
  more : ∀ {m k : Nat} {s : τ} {pg : Nat → Nat} {ev : Nat → Bool}, ok m s pg ev → m ≤ k → ok k s pg ev
  same : ∀ {m : Nat} {s : τ} {pg pg' : Nat → Nat} {ev ev' : Nat → Bool}, ok m s pg ev → (∀ i, i < n → pg i = pg' i) → (∀ i, i < n → ¬ pg i = 0 → ev i = ev' i) → ok m s pg' ev'
  miss : ∀ {w : World} {s : τ} {F : Nat → Prop} {m : Nat} {pg : Nat → Nat} {ev : Nat → Bool} {id b : Nat}, RR w s F → ok m s pg ev → m < 90000 → 1 ≤ id → id < 4294967296 → (∀ i, i < n → ¬ pg i = id) →
    w.cell? ⟨b, 0, none⟩ = some (.int .u32 id) → b < w.heap.size → ¬ F b → Calls Tryz.prog 61 #[rv, .pointer (some ⟨b, 0, none⟩)] w fun e w' => e = .returned (.tuple #[]) ∧ Tld RR (P.miss s id) F w w'
  acc : ∀ {w : World} {s : τ} {F : Nat → Prop} {m : Nat} {pg : Nat → Nat} {ev : Nat → Bool} {id k b1 b2 : Nat} {g : FuncId}, RR w s F → ok m s pg ev → m < 90000 → 1 ≤ id → id < 4294967296 → k < n → (pg k = id ∨ pg k = 0 ∧ ∀ i, i < n → ¬ pg i = id) →
    w.cell? ⟨b1, 0, none⟩ = some (.int .i64 k) → w.cell? ⟨b2, 0, none⟩ = some (.int .u32 id) → b1 < w.heap.size → b2 < w.heap.size → ¬ F b1 → ¬ F b2 →
    (g = 64 ∨ g = 70 ∨ g = 71) →
    Calls Tryz.prog g #[rv, .pointer (some ⟨b1, 0, none⟩), .pointer (some ⟨b2, 0, none⟩)] w fun e w' => e = .returned (.tuple #[]) ∧ Tld RR (P.access s k id) F w w'
  setT : ∀ {w : World} {s : τ} {F : Nat → Prop} {m : Nat} {pg : Nat → Nat} {ev : Nat → Bool} {k b : Nat} {g : FuncId}, RR w s F → ok m s pg ev → m < 90000 → k < n → ¬ pg k = 0 →
    w.cell? ⟨b, 0, none⟩ = some (.int .i64 k) → b < w.heap.size → ¬ F b → (g = 65 ∨ g = 56) →
    Calls Tryz.prog g #[rv, .pointer (some ⟨b, 0, none⟩)] w fun e w' => e = .returned (.tuple #[]) ∧ Tld RR (P.set s k true) F w w'
  setF : ∀ {w : World} {s : τ} {F : Nat → Prop} {m : Nat} {pg : Nat → Nat} {ev : Nat → Bool} {k b : Nat}, RR w s F → ok m s pg ev → m < 90000 → k < n → ¬ pg k = 0 →
    w.cell? ⟨b, 0, none⟩ = some (.int .i64 k) → b < w.heap.size → ¬ F b →
    Calls Tryz.prog 72 #[rv, .pointer (some ⟨b, 0, none⟩)] w fun e w' => e = .returned (.tuple #[]) ∧ Tld RR (P.set s k false) F w w'
  rem : ∀ {w : World} {s : τ} {F : Nat → Prop} {m : Nat} {pg : Nat → Nat} {ev : Nat → Bool} {k b : Nat} {g : FuncId}, RR w s F → ok m s pg ev → m < 90000 → k < n → ¬ pg k = 0 →
    w.cell? ⟨b, 0, none⟩ = some (.int .i64 k) → b < w.heap.size → ¬ F b → (g = 83 ∨ g = 74) →
    Calls Tryz.prog g #[rv, .pointer (some ⟨b, 0, none⟩)] w fun e w' => e = .returned (.tuple #[]) ∧ Tld RR (P.remove s k) F w w'
  ask : ∀ {w : World} {s : τ} {F : Nat → Prop} {m : Nat} {pg : Nat → Nat} {ev : Nat → Bool} {id : Nat}, RR w s F → ok m s pg ev → m < 90000 → 1 ≤ id → id < 4294967296 → (∀ i, i < n → ¬ pg i = id) → (∃ x, Goer n pg ev x) →
    w.cell? ⟨pb, 1, none⟩ = some rv → pb < w.heap.size → ¬ F pb → Calls Tryz.prog 82 #[.pointer (some ⟨pb, 0, none⟩), .int .u32 id] w fun e w' =>
      (match P.victim s id with
        | none => ∃ x : Int, e = .returned (.tuple #[.int .i64 x, .bool false])
        | some a => e = .returned (.tuple #[.int .i64 a, .bool true])) ∧ Tld RR (P.aft s id) F w w'
  okMiss : ∀ {m : Nat} {s : τ} {pg : Nat → Nat} {ev : Nat → Bool} {id : Nat}, ok m s pg ev → m < 90000 → 1 ≤ id → (∀ i, i < n → ¬ pg i = id) → ok (m + 1) (P.miss s id) pg ev
  okNew : ∀ {m : Nat} {s : τ} {pg : Nat → Nat} {ev : Nat → Bool} {id k : Nat}, ok m s pg ev → m < 90000 → 1 ≤ id → k < n → pg k = 0 → (∀ i, i < n → ¬ pg i = id) → ok (m + 1) (P.access s k id) (upd pg k id) (upd ev k false)
  okOld : ∀ {m : Nat} {s : τ} {pg : Nat → Nat} {ev : Nat → Bool} {id k : Nat}, ok m s pg ev → m < 90000 → 1 ≤ id → k < n → pg k = id → ok (m + 1) (P.access s k id) pg ev
  okSet : ∀ {m : Nat} {s : τ} {pg : Nat → Nat} {ev : Nat → Bool} {k : Nat} (b : Bool), ok m s pg ev → m < 90000 → k < n → ¬ pg k = 0 → ok (m + 1) (P.set s k b) pg (upd ev k b)
  okRem : ∀ {m : Nat} {s : τ} {pg : Nat → Nat} {ev : Nat → Bool} {k : Nat}, ok m s pg ev → m < 90000 → k < n → ¬ pg k = 0 → ok (m + 1) (P.remove s k) (upd pg k 0) (upd ev k false)
  okYes : ∀ {m : Nat} {s : τ} {pg : Nat → Nat} {ev : Nat → Bool} {id x : Nat}, ok m s pg ev → m < 90000 → 1 ≤ id → (∀ i, i < n → ¬ pg i = id) → P.victim s id = some x → Goer n pg ev x → ok (m + 1) (P.aft s id) (upd pg x 0) (upd ev x false)
  okNo : ∀ {m : Nat} {s : τ} {pg : Nat → Nat} {ev : Nat → Bool} {id : Nat}, ok m s pg ev → m < 90000 → 1 ≤ id → (∀ i, i < n → ¬ pg i = id) → (∀ x, P.victim s id = some x → ¬ Goer n pg ev x) → ok (m + 1) (P.aft s id) pg ev
end Go.Proofs.YtmpjnphnljakiaaGreatDoor
namespace Go.Proofs.YtmpjnphnljakiaaGreatDoor
open Go.RowKit Go.Maps
set_option linter.unusedVariables false
set_option linter.unusedSimpArgs false

section
variable {w w' : World} {p : PP} {f : Nat → FrS} {pl : Nat → Option Int} {E I : Nat → Bool} {sc m : Nat}
theorem find_none (H : MP w p f pl E I sc m) {id : Nat} (hid : id < 4294967296) (hp : pl id = none) : Calls Tryz.prog 34 #[p.ptr, .int .u32 id] w fun e w' => e = .returned (.tuple #[.int .i64 (-1), .int .i64 3]) ∧ w = w' := by
  have c3 : w.cell? ⟨p.pb, 3, none⟩ = some (.map (some p.mb)) := H.ce 3 (by omega)
  have lk := H.look hid
  rw [hp] at lk
  simp only [Option.getD_none, Option.isSome_none] at lk
  have lb := H.hd.lt
  obtain ⟨n, pb, db, fb, mb, rv, ev, eh, eL, iv, ih, iL⟩ := p
  unfold PP.ptr
  dsimp only at *
  clear H hp
  go_enter Tryz.func34, Tryz.ntmps34
  go_wp2
  go_returns
  exact ⟨rfl, rfl⟩
theorem find_some (H : MP w p f pl E I sc m) {id : Nat} (hid : id < 4294967296) {x : Int} (hp : pl id = some x) : Calls Tryz.prog 34 #[p.ptr, .int .u32 id] w fun e w' => e = .returned (.tuple #[.int .i64 x, .int .i64 0]) ∧ w = w' := by
  have c3 : w.cell? ⟨p.pb, 3, none⟩ = some (.map (some p.mb)) := H.ce 3 (by omega)
  have lk := H.look hid
  rw [hp] at lk
  simp only [Option.getD_some, Option.isSome_some] at lk
  have lb := H.hd.lt
  obtain ⟨n, pb, db, fb, mb, rv, ev, eh, eL, iv, ih, iL⟩ := p
  unfold PP.ptr
  dsimp only at *
  clear H hp
  go_enter Tryz.func34, Tryz.ntmps34
  go_wp2
  go_returns
  exact ⟨rfl, rfl⟩
theorem find_nil {id : Nat} : Calls Tryz.prog 34 #[.pointer none, .int .u32 id] w fun e w' => e = .returned (.tuple #[.int .i64 (-1), .int .i64 1]) ∧ w = w' := by
  go_enter Tryz.func34, Tryz.ntmps34
  go_wp2
  go_returns
  exact ⟨rfl, rfl⟩
/-- A page isn't pinned, and why. -/
def HeldNo (n : Nat) (f : Nat → FrS) (pl : Nat → Option Int) (id e : Nat) : Prop := (pl id = none ∧ e = 3) ∨ (pl id = some (-1) ∧ e = 5) ∨ ∃ k : Nat, k < n ∧ pl id = some (k : Int) ∧ (f k).pins = 0 ∧ e = 5
theorem held_no (H : MP w p f pl E I sc m) {id e0 : Nat} (hid : id < 4294967296) (hp : HeldNo p.n f pl id e0) : Calls Tryz.prog 54 #[p.ptr, .int .u32 id] w fun e w' => e = .returned (.tuple #[.int .i64 (-1), .int .i64 e0]) ∧ w = w' := by
  have c2 : w.cell? ⟨p.pb, 2, none⟩ = some (.slice (some ⟨p.fb, 0, none⟩) p.n p.n) := H.ce 2 (by omega)
  have lb := H.hd.lt
  have lf := H.fr.lt
  have hn := H.hn
  rcases hp with ⟨hp, rfl⟩ | ⟨hp, rfl⟩ | ⟨k, hk, hp, h0, rfl⟩
  · have HC := Lib.hid (find_none H hid hp)
    obtain ⟨n, pb, db, fb, mb, rv, ev, eh, eL, iv, ih, iL⟩ := p
    unfold PP.ptr at *
    dsimp only at *
    clear H hp
    go_enter Tryz.func54, Tryz.ntmps54
    go_wp2_with fail
    refine HC.out.mono ?_
    rintro e w1 ⟨rfl, rfl⟩
    go_wp2
    go_returns
    exact ⟨rfl, rfl⟩
  · have HC := Lib.hid (find_some H hid hp)
    obtain ⟨n, pb, db, fb, mb, rv, ev, eh, eL, iv, ih, iL⟩ := p
    unfold PP.ptr at *
    dsimp only at *
    clear H hp
    go_enter Tryz.func54, Tryz.ntmps54
    go_wp2_with fail
    refine HC.out.mono ?_
    rintro e w1 ⟨rfl, rfl⟩
    go_wp2
    go_returns
    exact ⟨rfl, rfl⟩
  · have HC := Lib.hid (find_some H hid hp)
    obtain ⟨_, _, cp, _⟩ := H.cf hk
    rw [h0] at cp
    obtain ⟨n, pb, db, fb, mb, rv, ev, eh, eL, iv, ih, iL⟩ := p
    unfold PP.ptr at *
    dsimp only at *
    clear H hp h0
    go_enter Tryz.func54, Tryz.ntmps54
    go_wp2_with fail
    refine HC.out.mono ?_
    rintro e w1 ⟨rfl, rfl⟩
    have hne : ((k : Int) == (-1)) = false := by simp <;> omega
    go_wp2
    go_returns
    exact ⟨rfl, rfl⟩
theorem held_yes (H : MP w p f pl E I sc m) {id k : Nat} (hid : id < 4294967296) (hk : k < p.n) (hp : pl id = some (k : Int)) (h0 : ¬ (f k).pins = 0) : Calls Tryz.prog 54 #[p.ptr, .int .u32 id] w fun e w' => e = .returned (.tuple #[.int .i64 k, .int .i64 0]) ∧ w = w' := by
  have c2 : w.cell? ⟨p.pb, 2, none⟩ = some (.slice (some ⟨p.fb, 0, none⟩) p.n p.n) := H.ce 2 (by omega)
  have lb := H.hd.lt
  have lf := H.fr.lt
  have hn := H.hn
  have HC := Lib.hid (find_some H hid hp)
  obtain ⟨_, _, cp, _⟩ := H.cf hk
  have h0' : (((f k).pins : Int) == 0) = false := by simp <;> exact h0
  generalize (f k).pins = q at *
  obtain ⟨n, pb, db, fb, mb, rv, ev, eh, eL, iv, ih, iL⟩ := p
  unfold PP.ptr at *
  dsimp only at *
  clear H hp h0
  go_enter Tryz.func54, Tryz.ntmps54
  go_wp2_with fail
  refine HC.out.mono ?_
  rintro e w1 ⟨rfl, rfl⟩
  have hne : ((k : Int) == (-1)) = false := by simp <;> omega
  go_wp2
  go_returns
  exact ⟨rfl, rfl⟩
theorem held_nil {id : Nat} : Calls Tryz.prog 54 #[.pointer none, .int .u32 id] w fun e w' => e = .returned (.tuple #[.int .i64 (-1), .int .i64 1]) ∧ w = w' := by
  have HC := Lib.hid (find_nil (w := w) (id := id))
  go_enter Tryz.func54, Tryz.ntmps54
  go_wp2_with fail
  refine HC.out.mono ?_
  rintro e w1 ⟨rfl, rfl⟩
  go_wp2
  go_returns
  exact ⟨rfl, rfl⟩
theorem allp_calls (H : MP w p f pl E I sc m) : Calls Tryz.prog 46 #[p.ptr] w fun e w' => e = .returned (.bool (decide (cntB E p.n = 0 ∧ cntB I p.n = 0))) ∧ w = w' := by
  have HE := Lib.hid (mp_lenE H)
  have HI := Lib.hid (mp_lenI H)
  have lb := H.hd.lt
  obtain ⟨n, pb, db, fb, mb, rv, ev, eh, eL, iv, ih, iL⟩ := p
  unfold PP.ptr
  dsimp only at *
  generalize cntB E n = a at *
  generalize cntB I n = b at *
  clear H
  go_enter Tryz.func46, Tryz.ntmps46
  go_wp2_with fail
  refine HE.out.mono ?_
  rintro e w1 ⟨rfl, rfl⟩
  by_cases h : a = 0
  · subst h
    go_wp2_with fail
    refine HI.out.mono ?_
    rintro e w1 ⟨rfl, rfl⟩
    go_wp2
    go_returns
    refine ⟨?_, rfl⟩
    by_cases h2 : b = 0 <;> simp [h2]
  · have hne : ((a : Int) == 0) = false := by simp <;> exact h
    go_wp2
    go_returns
    refine ⟨?_, rfl⟩
    simp [h]
end
end Go.Proofs.YtmpjnphnljakiaaGreatDoor

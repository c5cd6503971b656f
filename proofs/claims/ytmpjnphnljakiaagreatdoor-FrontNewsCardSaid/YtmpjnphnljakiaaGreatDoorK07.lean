/-
  least's Set in memory: trailing zeros, Has.
  Front: a client's steps, over raw memory: goOn, take, give, lacks.
  Front: what a client pins, as a map; lacks; what calls count.
  Front: what calls count: made, fetched, unpinned.
  Front: counting: the calls that count.
  least's Set in memory: Add, Drop.
  least's Set in memory: First, Len.
-/
import Derived.Test.YtmpjnphnljakiaaGreatDoorChecked
import Derived.Test.YtmpjnphnljakiaaGreatDoorK05
import Derived.Test.YtmpjnphnljakiaaGreatDoorK06
import Derived.Lib.TrailingZeros
import Derived.Laws.Bits64b
import Derived.Handy
import Derived.IntWalk
import Derived.Lib.Hide
import Derived.Deep.DeepMust
import Derived.Deep.QuietTactic
import Derived.Test.YtmpjnphnljakiaaGreatDoorK01
import Derived.Test.YtmpjnphnljakiaaGreatDoorK02
import Derived.Test.YtmpjnphnljakiaaGreatDoorK04
import Derived.Laws.EntriesVeiled
import Derived.Deep.Cut
import Derived.RegionTactic
namespace Go.Proofs.YtmpjnphnljakiaaGreatDoor
open Go.RowKit
set_option linter.unusedVariables false

/-- The library's table, in its variable. -/
structure TabT (w : World) : Prop where
  cell : ∀ j, j < Lib.deBruijn64tab.length → w.cell? ⟨0, j, none⟩ = some (.int .u8 (Lib.deBruijn64tab.getD j 0))
theorem TabT.lt {w : World} (h : TabT w) : 0 < w.heap.size := World.block_lt_of_cell? (w := w) (a := ⟨0, 0, none⟩) (h.cell 0 (by decide))
theorem TabT.fr {w w' : World} (h : TabT w) {F : Nat → Prop} (f : Fr F w w') (hF : ¬ F 0) : TabT w' :=
  ⟨fun j hj => by rw [f.cell (p := ⟨0, j, none⟩) h.lt hF]; exact h.cell j hj⟩
theorem TabT.fr0 {w w' : World} (h : TabT w) (f : Fr NoF w w') : TabT w' := h.fr f id
theorem tz_core (x k idx : Nat) (w : World) (hx0 : ((x : Int) == 0) = false)
    (key : IntKind.u64.wrap (bits BinOp.and IntKind.u64 (x : Int) (IntKind.u64.wrap (-(x : Int))) * 285870213051353865) / 288230376151711744 = (idx : Int))
    (hi : idx < 64) (hk : k < 64) (hcell : w.cell? ⟨0, idx, none⟩ = some (.int .u8 k)) :
    Calls Tryz.prog 81 #[.int .u64 x] w fun e w' => e = .returned (.int .i64 k) ∧ w' = w := by
  go_enter Tryz.func81, Tryz.ntmps81
  go_wp2_with (simp only [key])
  go_ret
  exact ⟨rfl, rfl⟩
theorem tz_key (x a : Nat) (hx : x < 18446744073709551616) (hx0 : x ≠ 0) (hlow : x &&& (18446744073709551616 - x) = a) :
    IntKind.u64.wrap (bits BinOp.and IntKind.u64 (x : Int) (IntKind.u64.wrap (-(x : Int))) * 285870213051353865) / 288230376151711744 = ((a * 285870213051353865 % 18446744073709551616 / 288230376151711744 : Nat) : Int) := by
  have e1 : IntKind.u64.wrap (-(x : Int)) = ((18446744073709551616 - x : Nat) : Int) := by rw [IntKind.wrap_u64]; omega
  rw [e1, bits_and_u64_nat x _ hx (by omega), hlow, IntKind.wrap_u64]
  omega
/-- The trailing zeros of a number that isn't 0. -/
theorem tz_calls {w : World} (hT : TabT w) {x : Nat} (hx : x < 18446744073709551616) (hx0 : x ≠ 0) :
    Calls Tryz.prog 81 #[.int .u64 x] w fun e w' => e = .returned (.int .i64 (Lib.ctz 64 x)) ∧ w' = w := by
  obtain ⟨hlow, hk⟩ := Lib.lowest_bit 64 x hx0 hx
  obtain ⟨hi, htab⟩ := Lib.deBruijn64_at _ hk
  have hcell := hT.cell _ hi
  rw [htab] at hcell
  exact tz_core x _ _ w (by simp; omega) (tz_key x _ hx hx0 hlow) hi hk hcell

/-- Words as cells. -/
def wC (S : Nat → Bool) (x : Nat) : Value := .int .u64 (wordOf S x : Nat)
def rowC (h : Nat → Nat) (bound : Nat) (i : Nat) : Value := .slice (some ⟨h i, 0, none⟩) (szs bound i) (szs bound i)
/-- The levels in memory: T i is what level i tells. -/
structure LR (w : World) (bound : Nat) (v : Value) (h : Nat → Nat) (L : Nat) (T : Nat → Nat → Bool) : Prop where
  lo : 1 ≤ bound
  hi : bound ≤ 65535
  row : SlF w 83 1 v L (rowC h bound)
  lv : ∀ i, i < L → Blk w (h i) (szs bound i) (wC (T i))
  inj : ∀ i j, i < L → j < L → h i = h j → i = j
  apart : ∀ i, i < L → ¬ v.ownBlock = some (h i)
  one : 1 ≤ L
  top : szs bound (L - 1) = 1
  small : L ≤ 4
/-- The levels of a set in memory. -/
structure LS (w : World) (bound : Nat) (S : Nat → Bool) (v : Value) (h : Nat → Nat) (L : Nat) : Prop where
  r : LR w bound v h L (lev S)
  dom : ∀ x, S x = true → x < bound
/-- Its blocks. -/
def LF (v : Value) (h : Nat → Nat) (L : Nat) : Nat → Prop := fun k => v.ownBlock = some k ∨ ∃ i, i < L ∧ h i = k
section
variable {w w' : World} {b off N bound L : Nat} {c : Nat → Value} {S : Nat → Bool} {v : Value} {h : Nat → Nat} {T : Nat → Nat → Bool}
theorem LR.fr (H : LR w bound v h L T) {G : Nat → Prop} (f : Fr G w w') (hG : ∀ k, LF v h L k → ¬ G k) : LR w' bound v h L T :=
  ⟨H.lo, H.hi, H.row.fr f (fun b q => hG b (.inl q)), fun i hi => (H.lv i hi).fr f (hG _ (.inr ⟨i, hi, rfl⟩)), H.inj, H.apart, H.one, H.top, H.small⟩
theorem LR.lt (H : LR w bound v h L T) : ∀ k, LF v h L k → k < w.heap.size := by
  rintro k (q | ⟨i, hi, rfl⟩)
  · exact H.row.lt k q
  · exact (H.lv i hi).lt
theorem LR.congr (H : LR w bound v h L T) {T' : Nat → Nat → Bool} (e : ∀ i, i < L → T i = T' i) : LR w bound v h L T' :=
  ⟨H.lo, H.hi, H.row, fun i hi => by rw [← e i hi]; exact H.lv i hi, H.inj, H.apart, H.one, H.top, H.small⟩
/-- What a walk reads at a level, in whatever word. -/
structure LvAt (w : World) (g cap hb sz L k : Nat) (y W : Nat) : Prop where
  gl : g < w.heap.size
  hl : hb < w.heap.size
  row : w.cell? ⟨g, k, none⟩ = some (.slice (some ⟨hb, 0, none⟩) sz sz)
  word : w.cell? ⟨hb, y, none⟩ = some (.int .u64 W)
  fr : w.frozen? ⟨hb, y, none⟩ = false
  sz : y < sz ∧ sz ≤ 1024
theorem LR.shape (H : LR w bound v h L T) : ∃ g cap, v = .slice (some ⟨g, 0, none⟩) L cap ∧ L ≤ cap ∧ cap ≤ 9223372036854775807 := by
  obtain ⟨g, cap, e, g1, g2, _⟩ := H.row.at (by have := H.one; omega)
  unfold maxLen at g2
  exact ⟨g, cap, e, g1, by omega⟩
theorem LR.at {g cap : Nat} (H : LR w bound (.slice (some ⟨g, 0, none⟩) L cap) h L T) {k y : Nat} (hk : k < L) (hy : y < szs bound k) : LvAt w g cap (h k) (szs bound k) L k y (wordOf (T k) y) := by
  obtain ⟨g', cap', e, g1, g2, g3, g4, g5⟩ := H.row.at (by omega)
  simp only [Value.slice.injEq, Option.some.injEq, Addr.mk.injEq] at e
  obtain ⟨⟨rfl, _⟩, _, rfl⟩ := e
  exact ⟨g3, (H.lv k hk).lt, g5 k (by omega), (H.lv k hk).cell hy, (H.lv k hk).frozen y, hy, szs_le H.hi k⟩
def updT (T : Nat → Nat → Bool) (k : Nat) (S : Nat → Bool) : Nat → Nat → Bool := fun i => if i = k then S else T i
/-- A level's word is written. -/
theorem LR.set (H : LR w bound v h L T) {k x : Nat} (hk : k < L) (vv : Bool) : LR (w.setCell ⟨h k, x / 64, none⟩ (.int .u64 (wordOf (updB (T k) x vv) (x / 64) : Nat))) bound v h L (updT T k (updB (T k) x vv)) := by
  have f : Fr (fun i => i = h k) w (w.setCell ⟨h k, x / 64, none⟩ (.int .u64 (wordOf (updB (T k) x vv) (x / 64) : Nat))) := (Fr.refl (fun i => i = h k) w).setCell (p := ⟨h k, x / 64, none⟩) (.inl rfl) _
  refine ⟨H.lo, H.hi, H.row.fr f (fun b q e => H.apart k hk (by rw [q, e])), fun i hi => ?_, H.inj, H.apart, H.one, H.top, H.small⟩
  by_cases e : i = k
  · subst e
    refine ((H.lv i hi).set _ _).congr (fun y hy => ?_)
    unfold updT
    rw [if_pos rfl]
    by_cases e2 : y = x / 64
    · subst e2; rw [upd_same]; rfl
    · rw [upd_other _ _ e2]; unfold wC; rw [wordOf_else _ _ e2]
  · unfold updT
    rw [if_neg e]
    exact (H.lv i hi).fr f (fun q => e (H.inj _ _ hi hk q))
/-- A Set lies in block b, from off on; that has N cells: c. -/
structure LC (w : World) (b off N : Nat) (c : Nat → Value) (bound : Nat) (S : Nat → Bool) (v : Value) (h : Nat → Nat) (L : Nat) : Prop where
  blk : Blk w b N c
  inb : off + 2 < N
  c0 : c off = .int .i64 bound
  c1 : c (off + 1) = .int .i64 (cntB S bound : Nat)
  c2 : c (off + 2) = v
  ls : LS w bound S v h L
  nb : ¬ LF v h L b
def hasZ (S : Nat → Bool) (x : Int) : Bool := if x < 0 then false else S x.toNat
theorem LC.fr (H : LC w b off N c bound S v h L) {G : Nat → Prop} (f : Fr G w w') (hb : ¬ G b) (hG : ∀ k, LF v h L k → ¬ G k) : LC w' b off N c bound S v h L :=
  ⟨H.blk.fr f hb, H.inb, H.c0, H.c1, H.c2, ⟨H.ls.r.fr f hG, H.ls.dom⟩, H.nb⟩
theorem LC.fr0 (H : LC w b off N c bound S v h L) (f : Fr NoF w w') : LC w' b off N c bound S v h L := H.fr f id (fun _ _ => id)
theorem LC.cell0 (H : LC w b off N c bound S v h L) : w.cell? ⟨b, off, none⟩ = some (.int .i64 bound) := by have := H.blk.cell (i := off) (by have := H.inb; omega); rwa [H.c0] at this
theorem LC.cell1 (H : LC w b off N c bound S v h L) : w.cell? ⟨b, off + 1, none⟩ = some (.int .i64 (cntB S bound : Nat)) := by have := H.blk.cell (i := off + 1) (by have := H.inb; omega); rwa [H.c1] at this
theorem LC.cell2 (H : LC w b off N c bound S v h L) : w.cell? ⟨b, off + 2, none⟩ = some v := by have := H.blk.cell (i := off + 2) (by have := H.inb; omega); rwa [H.c2] at this
theorem LC.out {x : Int} (H : LC w b off N c bound S v h L) (hx : (bound : Int) ≤ x) : hasZ S x = false := by
  unfold hasZ
  split
  · rfl
  · cases e : S x.toNat with
    | false => rfl
    | true => have := H.ls.dom _ e; omega
set_option maxHeartbeats 1000000 in
theorem has_neg (H : LC w b off N c bound S v h L) {x : Int} (hx : x < 0 ∨ (bound : Int) ≤ x) : Calls Tryz.prog 25 #[.pointer (some ⟨b, off, none⟩), .int .i64 x] w fun e w' => e = .returned (.bool false) ∧ w = w' := by
  have q0 := H.cell0
  have lb := H.blk.lt
  clear H
  by_cases hx0 : x < 0
  · have g0 : decide (0 ≤ x) = false := by simp; omega
    go_enter Tryz.func25, Tryz.ntmps25
    go_wp2
    go_returns
    exact ⟨rfl, rfl⟩
  · have g0 : decide (0 ≤ x) = true := by simp; omega
    have g1 : decide (x < (bound : Int)) = false := by simp; omega
    go_enter Tryz.func25, Tryz.ntmps25
    go_wp2
    go_returns
    exact ⟨rfl, rfl⟩
set_option maxHeartbeats 1000000 in
theorem has_in (H : LC w b off N c bound S v h L) {x : Nat} (hx : x < bound) : Calls Tryz.prog 25 #[.pointer (some ⟨b, off, none⟩), .int .i64 x] w fun e w' => e = .returned (.bool (S x)) ∧ w = w' := by
  have q0 := H.cell0
  have q2 := H.cell2
  have lb := H.blk.lt
  have hL := H.ls.r.one
  obtain ⟨g, cap, rfl, g1, g2⟩ := H.ls.r.shape
  obtain ⟨r0, r1, r2, r3, _, r4, r5⟩ := H.ls.r.at (k := 0) (y := x / 64) (by omega) (dv_lt hx 0)
  have hhi := H.ls.r.hi
  have HB := wordOf_at S x
  have hW := wordOf_lt S (x / 64)
  rw [show lev S 0 = S from rfl] at r3
  generalize szs bound 0 = sz at *
  generalize h 0 = hb at *
  have hk2 : decide ((x : Int) < (bound : Int)) = true := by simpa using hx
  have key : (bits BinOp.and IntKind.u64 (((wordOf S (x / 64) : Nat) : Int) / 2 ^ (x % 64)) 1 == 1) = S x := by
    have e1 : ((wordOf S (x / 64) : Nat) : Int) / 2 ^ (x % 64) = ((wordOf S (x / 64) / 2 ^ (x % 64) : Nat) : Int) := by simp
    rw [e1, show (1 : Int) = ((1 : Nat) : Int) from rfl, u64_and_nat _ _ (by have := Nat.div_le_self (wordOf S (x / 64)) (2 ^ (x % 64)); omega) (by omega), nat_mask1, HB]
    cases S x <;> simp
  generalize wordOf S (x / 64) = W at *
  clear H HB
  go_enter Tryz.func25, Tryz.ntmps25
  go_wp2
  go_returns
  exact ⟨rfl, rfl⟩
theorem has_calls (H : LC w b off N c bound S v h L) (x : Int) : Calls Tryz.prog 25 #[.pointer (some ⟨b, off, none⟩), .int .i64 x] w fun e w' => e = .returned (.bool (hasZ S x)) ∧ w = w' := by
  by_cases h0 : x < 0
  · have e : hasZ S x = false := by unfold hasZ; rw [if_pos h0]
    rw [e]; exact has_neg H (.inl h0)
  · by_cases h1 : (bound : Int) ≤ x
    · rw [H.out h1]; exact has_neg H (.inr h1)
    · obtain ⟨n, rfl⟩ := Int.eq_ofNat_of_zero_le (show 0 ≤ x by omega)
      have e : hasZ S n = S n := by unfold hasZ; rw [if_neg h0]; rfl
      rw [e]; exact has_in H (by omega)
end
end Go.Proofs.YtmpjnphnljakiaaGreatDoor
namespace Go.Proofs.YtmpjnphnljakiaaGreatDoor
open Go.RowKit Go.Maps
set_option linter.unusedVariables false
set_option linter.unusedSimpArgs false
/-- A client's next step: 0: none, 1: take, 2: do, 3: give. -/
def nxV (b : Nat) (s : Nat) : Value := match s with
  | 1 => .func (.func 26) #[.pointer (some ⟨b, 0, none⟩)] #[]
  | 2 => .func (.func 27) #[.pointer (some ⟨b, 0, none⟩)] #[]
  | 3 => .func (.func 29) #[.pointer (some ⟨b, 0, none⟩)] #[]
  | _ => .nilFunc
/-- A client's cells. -/
def clC (i : Nat) (ov : Value) (d mb b s : Nat) : Nat → Value := fun j => match j with | 0 => .int .i64 i | 1 => ov | 2 => .int .i64 d | 3 => .map (some mb) | 4 => nxV b s | _ => .nilFunc
theorem clC_st (i : Nat) (ov : Value) (d mb b s t : Nat) : upd (clC i ov d mb b s) 4 (nxV b t) = clC i ov d mb b t := by
  funext j
  unfold upd
  match j with
  | 0 | 1 | 2 | 3 | 4 => rfl
  | _ + 5 => simp [clC]
theorem clC_dn (i : Nat) (ov : Value) (d mb b s e : Nat) : upd (clC i ov d mb b s) 2 (.int .i64 e) = clC i ov e mb b s := by
  funext j
  unfold upd
  match j with
  | 0 | 1 | 2 | 3 | 4 => rfl
  | _ + 5 => simp [clC]
theorem nxV_shape (b s : Nat) : nxV b s = .nilFunc ∨ ∃ f, nxV b s = .func (.func f) #[.pointer (some ⟨b, 0, none⟩)] #[] := by
  match s with
  | 0 => exact .inl rfl
  | 1 => exact .inr ⟨_, rfl⟩
  | 2 => exact .inr ⟨_, rfl⟩
  | 3 => exact .inr ⟨_, rfl⟩
  | _ + 4 => exact .inl rfl
/-- The first step of the next call, if there is one. -/
def go1 (d n : Nat) : Nat := if d < n then 1 else 0
set_option maxHeartbeats 1000000 in
theorem goOn_calls {w : World} {b i d mb s n c : Nat} {a : Option Addr} (hd : d ≤ 1000000) (hn : n ≤ 1000000) (h : Blk w b 5 (clC i (.slice a n c) d mb b s)) :
    Calls Tryz.prog 24 #[.pointer (some ⟨b, 0, none⟩)] w fun e w' => e = .returned (.tuple #[]) ∧ Blk w' b 5 (clC i (.slice a n c) d mb b (go1 d n)) ∧ Fr (fun j => j = b) w w' := by
  have c4 := h.cell (i := 4) (by omega)
  have z4 := h.frozen 4
  have lb := h.lt
  have H0 : Hid (Blk (w.setCell ⟨b, 4, none⟩ .nilFunc) b 5 (clC i (.slice a n c) d mb b 0)) := Lib.hid (by have q := h.set 4 (nxV b 0); rw [clC_st] at q; exact q)
  have f0 : Fr (fun j => j = b) w (w.setCell ⟨b, 4, none⟩ .nilFunc) := (Fr.refl (fun j => j = b) w).setCell (p := ⟨b, 4, none⟩) (.inl rfl) _
  have F0 := Lib.hid f0
  generalize clC i (.slice a n c) d mb b s 4 = x at *
  clear h f0
  go_enter Tryz.func24, Tryz.ntmps24
  go_upto_region 1 with fail
  clear c4 z4 lb
  generalize w.setCell ⟨b, 4, none⟩ .nilFunc = w1 at *
  have c1 := H0.out.cell (i := 1) (by omega)
  have c2 := H0.out.cell (i := 2) (by omega)
  have c4 := H0.out.cell (i := 4) (by omega)
  have z4 := H0.out.frozen 4
  have lb := H0.out.lt
  simp only [clC, nxV] at c1 c2 c4
  have H1 : Hid (∀ q, Blk ((w1.drewN q).setCell ⟨b, 4, none⟩ (nxV b 1)) b 5 (clC i (.slice a n c) d mb b 1)) := Lib.hid fun q => by have q := (H0.out.drewN q).set 4 (nxV b 1); rw [clC_st] at q; exact q
  have F1 : Hid (∀ q, Fr (fun j => j = b) w ((w1.drewN q).setCell ⟨b, 4, none⟩ (nxV b 1))) := Lib.hid fun q => (F0.out.drewN q).setCell (p := ⟨b, 4, none⟩) (.inl rfl) _
  have HG : Hid (go1 d n = if d < n then 1 else 0) := Lib.hid rfl
  by_cases hl : d < n
  · have hlI : (d : Int) < (n : Int) := by omega
    have e1 : go1 d n = 1 := by rw [HG.out, if_pos hl]
    have E1 := Lib.hid e1
    clear e1 HG
    go_quiet (fail)
    go_wp2
    go_returns
    exact ⟨rfl, by rw [E1.out]; exact H1.out _, F1.out _⟩
  · have hlI : ¬ (d : Int) < (n : Int) := by omega
    have e1 : go1 d n = 0 := by rw [HG.out, if_neg hl]
    have E1 := Lib.hid e1
    clear e1 HG
    go_quiet (fail)
    go_wp2
    go_returns
    exact ⟨rfl, by rw [E1.out]; exact H0.out.drewN _, F0.out.drewN _⟩
/-- A front's cells: its pool, its clients, whose the latch is, its log. -/
def frC (pv cv : Value) (la : Option Nat) (lv : Value) : Nat → Value := fun j => match j with | 0 => pv | 1 => cv | 2 => .pointer (la.map fun b => ⟨b, 0, none⟩) | 3 => lv | _ => .nilFunc
theorem frC_la (pv cv : Value) (la lb : Option Nat) (lv : Value) : upd (frC pv cv la lv) 2 (.pointer (lb.map fun b => ⟨b, 0, none⟩)) = frC pv cv lb lv := by
  funext j
  unfold upd
  match j with
  | 0 | 1 | 2 | 3 => rfl
  | _ + 4 => simp [frC]
set_option maxHeartbeats 1000000 in
/-- take: where the latch is free. -/
theorem take_yes {w : World} {b fb i d mb s : Nat} {ov pv cv lv : Value} (h : Blk w b 5 (clC i ov d mb b s)) (hf : Blk w fb 4 (frC pv cv none lv)) (ne : ¬ b = fb) :
    Calls Tryz.prog 26 #[.pointer (some ⟨b, 0, none⟩), .pointer (some ⟨fb, 0, none⟩)] w fun e w' => e = .returned (.bool true) ∧ Blk w' b 5 (clC i ov d mb b 2) ∧ Blk w' fb 4 (frC pv cv (some b) lv) ∧ Fr (fun j => j = b ∨ j = fb) w w' := by
  have g2 := hf.cell (i := 2) (by omega)
  have y2 := hf.frozen 2
  have lf := hf.lt
  have c4 := h.cell (i := 4) (by omega)
  have z4 := h.frozen 4
  have lb := h.lt
  simp only [frC, Option.map_none] at g2
  have HF : Hid (Blk ((w.setCell ⟨fb, 2, none⟩ (.pointer (some ⟨b, 0, none⟩))).setCell ⟨b, 4, none⟩ (nxV b 2)) fb 4 (frC pv cv (some b) lv)) := Lib.hid (by
    have q := hf.set 2 (.pointer ((some b).map fun b => ⟨b, 0, none⟩))
    rw [frC_la] at q
    exact q.other (fun e => ne e.symm) _)
  have HC : Hid (Blk ((w.setCell ⟨fb, 2, none⟩ (.pointer (some ⟨b, 0, none⟩))).setCell ⟨b, 4, none⟩ (nxV b 2)) b 5 (clC i ov d mb b 2)) := Lib.hid (by
    have q := (h.other (a := ⟨fb, 2, none⟩) ne (.pointer (some ⟨b, 0, none⟩))).set 4 (nxV b 2)
    rw [clC_st] at q
    exact q)
  have F1 : Hid (Fr (fun j => j = b ∨ j = fb) w ((w.setCell ⟨fb, 2, none⟩ (.pointer (some ⟨b, 0, none⟩))).setCell ⟨b, 4, none⟩ (nxV b 2))) := Lib.hid (((Fr.refl _ w).setCell (p := ⟨fb, 2, none⟩) (.inl (.inr rfl)) _).setCell (p := ⟨b, 4, none⟩) (.inl (.inl rfl)) _)
  generalize clC i ov d mb b s 4 = x at *
  clear h hf
  go_enter Tryz.func26, Tryz.ntmps26
  go_wp2
  go_returns
  exact ⟨rfl, HC.out, HF.out, F1.out⟩
/-- take: where somebody has the latch. -/
theorem take_no {w : World} {b fb k : Nat} {pv cv lv : Value} (hf : Blk w fb 4 (frC pv cv (some k) lv)) :
    Calls Tryz.prog 26 #[.pointer (some ⟨b, 0, none⟩), .pointer (some ⟨fb, 0, none⟩)] w fun e w' => e = .returned (.bool false) ∧ w = w' := by
  have g2 := hf.cell (i := 2) (by omega)
  have lf := hf.lt
  simp only [frC, Option.map_some] at g2
  clear hf
  go_enter Tryz.func26, Tryz.ntmps26
  go_wp2
  go_returns
  exact ⟨rfl, rfl⟩
set_option maxHeartbeats 1000000 in
/-- give: the latch is free again; the next call. -/
theorem give_calls {w : World} {b fb i d mb s n c : Nat} {a : Option Addr} {la : Option Nat} {pv cv lv : Value} (hd : d ≤ 1000000) (hn : n ≤ 1000000) (h : Blk w b 5 (clC i (.slice a n c) d mb b s)) (hf : Blk w fb 4 (frC pv cv la lv)) (ne : ¬ b = fb) :
    Calls Tryz.prog 29 #[.pointer (some ⟨b, 0, none⟩), .pointer (some ⟨fb, 0, none⟩)] w fun e w' => e = .returned (.bool true) ∧ Blk w' b 5 (clC i (.slice a n c) d mb b (go1 d n)) ∧ Blk w' fb 4 (frC pv cv none lv) ∧ Fr (fun j => j = b ∨ j = fb) w w' := by
  have g2 := hf.cell (i := 2) (by omega)
  have y2 := hf.frozen 2
  have lf := hf.lt
  have HF : Hid (Blk (w.setCell ⟨fb, 2, none⟩ (.pointer none)) fb 4 (frC pv cv none lv)) := Lib.hid (by
    have q := hf.set 2 (.pointer ((none : Option Nat).map fun b => ⟨b, 0, none⟩))
    rw [frC_la] at q
    exact q)
  have HC : Hid (Blk (w.setCell ⟨fb, 2, none⟩ (.pointer none)) b 5 (clC i (.slice a n c) d mb b s)) := Lib.hid (h.other (a := ⟨fb, 2, none⟩) ne _)
  have F1 : Hid (Fr (fun j => j = b ∨ j = fb) w (w.setCell ⟨fb, 2, none⟩ (.pointer none))) := Lib.hid ((Fr.refl _ w).setCell (p := ⟨fb, 2, none⟩) (.inl (.inr rfl)) _)
  generalize frC pv cv la lv 2 = x at *
  clear h hf
  go_enter Tryz.func29, Tryz.ntmps29
  go_wp2_with fail
  refine (goOn_calls hd hn HC.out).mono ?_
  rintro e w1 ⟨rfl, h1, f1⟩
  have H1 := Lib.hid h1
  have H2 := Lib.hid (HF.out.fr f1 (fun q => ne q.symm))
  have H3 := Lib.hid (F1.out.trans f1 (fun j q => .inl (.inl q)))
  clear h1 f1
  go_wp2
  go_returns
  exact ⟨rfl, H1.out, H2.out, H3.out⟩
end Go.Proofs.YtmpjnphnljakiaaGreatDoor
namespace Go.Proofs.YtmpjnphnljakiaaGreatDoor
open Go.RowKit Go.Maps
set_option linter.unusedVariables false
set_option linter.unusedSimpArgs false
set_option maxRecDepth 100000
/-- A call. -/
structure OpF where
  k : Int
  id : Nat
  v : Nat
/-- Its numbers fit. -/
def OpF.ok (o : OpF) : Prop := o.id < 4294967296 ∧ o.v < 18446744073709551616 ∧ -9223372036854775808 ≤ o.k ∧ o.k ≤ 9223372036854775807
def OpF.val (o : OpF) : Value := .agg #[.int .i64 o.k, .int .u32 o.id, .int .u64 o.v]
theorem MVf : MV Tryz.prog 54 44 3 .u32 (.int .i64 0) := ⟨Tryz.underlying54, Tryz.underlying44, fun w => by kernel_rfl⟩
/-- Pins as the map's entries: none for 0. -/
def pinM (pin : Nat → Nat) : Int → Option Value := fun x => if x < 0 ∨ pin x.toNat = 0 then none else some (.int .i64 (pin x.toNat : Nat))
theorem pinM_at (pin : Nat → Nat) (id : Nat) : pinM pin (id : Int) = if pin id = 0 then none else some (.int .i64 (pin id : Nat)) := by
  unfold pinM
  simp only [Int.toNat_natCast]
  by_cases h : pin id = 0
  · rw [if_pos (.inr h), if_pos h]
  · rw [if_neg (by omega), if_neg h]
theorem pinM_get (pin : Nat → Nat) (id : Nat) : (pinM pin (id : Int)).getD (.int .i64 0) = .int .i64 (pin id : Nat) := by
  rw [pinM_at]
  by_cases h : pin id = 0
  · rw [if_pos h, h]; rfl
  · rw [if_neg h]; rfl
theorem pinM_put (pin : Nat → Nat) (id k : Nat) (hk : ¬ k = 0) : updV (pinM pin) (id : Int) (some (.int .i64 (k : Nat))) = pinM (upd pin id k) := by
  funext x
  unfold updV
  by_cases h : x = (id : Int)
  · subst h
    rw [if_pos rfl, pinM_at, upd_same, if_neg hk]
  · rw [if_neg h]
    unfold pinM
    by_cases hx : x < 0
    · rw [if_pos (.inl hx), if_pos (.inl hx)]
    · rw [upd_other _ _ (show ¬ x.toNat = id by omega)]
theorem pinM_del (pin : Nat → Nat) (id : Nat) : updV (pinM pin) (id : Int) none = pinM (upd pin id 0) := by
  funext x
  unfold updV
  by_cases h : x = (id : Int)
  · subst h
    rw [if_pos rfl, pinM_at, upd_same, if_pos rfl]
  · rw [if_neg h]
    unfold pinM
    by_cases hx : x < 0
    · rw [if_pos (.inl hx), if_pos (.inl hx)]
    · rw [upd_other _ _ (show ¬ x.toNat = id by omega)]
theorem u32wf {id : Nat} (h : id < 4294967296) : (Lit.int .u32 (id : Int)).wf = true := by simp [Lit.wf, IntKind.min, IntKind.max, IntKind.signed, IntKind.bits]; omega
/-- Does a call want a pin that the client hasn't? -/
def lackB (o : OpF) (pin : Nat → Nat) : Bool := decide (o.k = 2 ∨ o.k = 3 ∨ o.k = 4) && decide (pin o.id = 0)
theorem lacks_calls {w : World} {b i d mb s cnt : Nat} {ov : Value} {pin : Nat → Nat} {o : OpF} (ho : o.ok) (h : Blk w b 5 (clC i ov d mb b s)) (hm : MpV Tryz.prog 44 .u32 (.int .i64 0) w mb cnt (pinM pin)) :
    Calls Tryz.prog 30 #[.pointer (some ⟨b, 0, none⟩), o.val] w fun e w' => e = .returned (.bool (lackB o pin)) ∧ Fr NoF w w' := by
  obtain ⟨k, pg, v⟩ := o
  have hwf := u32wf ho.1
  have HA : Fr NoF w (w.alloc (.cells #[.int .i64 k, .int .u32 (pg : Nat), .int .u64 (v : Nat)] 73)) := (Fr.refl NoF w).alloc _
  have h1 := (hm.fr (HA.drew) id).look_run MVf hwf
  rw [pinM_get] at h1
  have c3 := (h.fr HA id).cell (i := 3) (by omega)
  have lb := (h.fr HA id).lt
  simp only [clC] at c3
  have HL : Hid (lackB ⟨k, pg, v⟩ pin = (decide (k = 2 ∨ k = 3 ∨ k = 4) && decide (pin pg = 0))) := Lib.hid rfl
  have FA := Lib.hid HA
  have hid0 := ho.1
  generalize pin pg = pn at *
  clear h hm HA ho
  unfold OpF.val
  go_enter Tryz.func30, Tryz.ntmps30
  have hk : k = 2 ∨ k = 3 ∨ k = 4 ∨ ¬ (k = 2 ∨ k = 3 ∨ k = 4) := by omega
  have e1 : decide (pn = 0) = ((pn : Int) == 0) := by rw [Bool.eq_iff_iff]; simp
  have E1 := Lib.hid e1
  clear e1
  rcases hk with rfl | rfl | rfl | hk
  all_goals have HZ := Lib.hid (congrArg (fun z => Ending.returned (Value.bool z)) HL.out)
  · go_wp2_with fail
    go_region
    go_wp2
    go_returns
    exact ⟨by rw [HZ.out, E1.out]; rfl, FA.out.drew⟩
  · go_wp2_with fail
    go_region
    go_wp2
    go_returns
    exact ⟨by rw [HZ.out, E1.out]; rfl, FA.out.drew⟩
  · go_wp2_with fail
    go_region
    go_wp2
    go_returns
    exact ⟨by rw [HZ.out, E1.out]; rfl, FA.out.drew⟩
  · have b2 : ¬ k = 2 := fun q => hk (.inl q)
    have b3 : ¬ k = 3 := fun q => hk (.inr (.inl q))
    have b4 : ¬ k = 4 := fun q => hk (.inr (.inr q))
    have HK := Lib.hid hk
    clear hk
    go_wp2
    go_returns
    exact ⟨by rw [HZ.out, decide_eq_false HK.out]; rfl, FA.out⟩
end Go.Proofs.YtmpjnphnljakiaaGreatDoor
namespace Go.Proofs.YtmpjnphnljakiaaGreatDoor
open Go.RowKit Go.Maps
set_option linter.unusedVariables false
set_option linter.unusedSimpArgs false
set_option maxRecDepth 100000
/-- An answer. -/
structure AnF where
  e : Nat
  id : Nat
  v : Nat
def AnF.val (a : AnF) : Value := .agg #[.int .i64 (a.e : Nat), .int .u32 (a.id : Nat), .int .u64 (a.v : Nat)]
def AnF.ok (a : AnF) : Prop := a.e < 9 ∧ a.id < 4294967296 ∧ a.v < 18446744073709551616
abbrev PinsAt (w : World) (mb cnt : Nat) (m : Int → Option Value) : Prop := MpV Tryz.prog 44 .u32 (.int .i64 0) w mb cnt m
set_option maxHeartbeats 2000000 in
theorem made_calls {w : World} {b i d mb s cnt : Nat} {ov : Value} {pin : Nat → Nat} {o : OpF} {a : AnF} (ha : a.id < 4294967296) (hc : cnt < 100000) (hp : pin a.id < 100000) (h : Blk w b 5 (clC i ov d mb b s)) (hm : PinsAt w mb cnt (pinM pin)) (ne : ¬ b = mb) :
    Calls Tryz.prog 43 #[.pointer (some ⟨b, 0, none⟩), o.val, a.val] w fun e w' => e = .returned (.tuple #[]) ∧ (∃ cnt', cnt' ≤ cnt + 1 ∧ PinsAt w' mb cnt' (pinM (upd pin a.id (pin a.id + 1)))) ∧ Fr (fun j => j = mb) w w' := by
  obtain ⟨k, og, v⟩ := o
  obtain ⟨er, pg, av⟩ := a
  have hwf := u32wf ha
  have HA : Fr NoF w ((w.alloc (.cells #[.int .i64 k, .int .u32 (og : Nat), .int .u64 (v : Nat)] 73)).alloc (.cells #[.int .i64 (er : Nat), .int .u32 (pg : Nat), .int .u64 (av : Nat)] 75)) := ((Fr.refl NoF w).alloc _).alloc _
  have hmd := hm.fr (HA.drew) (fun q => q)
  have h1 := hmd.look_run MVf hwf
  rw [pinM_get] at h1
  obtain ⟨w2, hrun, m1, m2⟩ := hmd.put_run MVf (by omega) hwf (.int .i64 (pin pg + 1 : Nat))
  rw [pinM_put _ _ _ (by omega)] at m1
  have R1 : Hid (∃ cnt', cnt' ≤ cnt + 1 ∧ PinsAt w2 mb cnt' (pinM (upd pin pg (pin pg + 1)))) := Lib.hid ⟨_, by split <;> omega, m1⟩
  have R2 : Hid (Fr (fun j => j = mb) w w2) := Lib.hid ((HA.drew.none).trans m2 (fun j q => .inl q))
  have c3 := (h.fr HA (fun q => q)).cell (i := 3) (by omega)
  have lb := (h.fr HA (fun q => q)).lt
  simp only [clC] at c3
  have e1 : IntKind.i64.wrap ((pin pg : Int) + 1) = ((pin pg + 1 : Nat) : Int) := by rw [IntWalk.i64_in _ (by have := hp; simp only at this; omega)]; omega
  generalize hq : pin pg + 1 = pn1 at *
  generalize pin pg = pn at *
  clear h hm HA ha m1 m2 hmd hp hq
  unfold OpF.val AnF.val
  go_enter Tryz.func43, Tryz.ntmps43
  go_wp2_with fail
  go_region
  go_returns
  exact ⟨rfl, R1.out, R2.out⟩
set_option maxHeartbeats 2000000 in
theorem fetched_calls {w : World} {b i d mb s cnt : Nat} {ov : Value} {pin : Nat → Nat} {o : OpF} {a : AnF} (ho : o.ok) (hc : cnt < 100000) (hp : pin o.id < 100000) (h : Blk w b 5 (clC i ov d mb b s)) (hm : PinsAt w mb cnt (pinM pin)) (ne : ¬ b = mb) :
    Calls Tryz.prog 44 #[.pointer (some ⟨b, 0, none⟩), o.val, a.val] w fun e w' => e = .returned (.tuple #[]) ∧ (∃ cnt', cnt' ≤ cnt + 1 ∧ PinsAt w' mb cnt' (pinM (upd pin o.id (pin o.id + 1)))) ∧ Fr (fun j => j = mb) w w' := by
  obtain ⟨k, pg, v⟩ := o
  obtain ⟨er, ag, av⟩ := a
  have hwf := u32wf ho.1
  have HA : Fr NoF w ((w.alloc (.cells #[.int .i64 k, .int .u32 (pg : Nat), .int .u64 (v : Nat)] 73)).alloc (.cells #[.int .i64 (er : Nat), .int .u32 (ag : Nat), .int .u64 (av : Nat)] 75)) := ((Fr.refl NoF w).alloc _).alloc _
  have hmd := hm.fr (HA.drew) (fun q => q)
  have h1 := hmd.look_run MVf hwf
  rw [pinM_get] at h1
  obtain ⟨w2, hrun, m1, m2⟩ := hmd.put_run MVf (by omega) hwf (.int .i64 (pin pg + 1 : Nat))
  rw [pinM_put _ _ _ (by omega)] at m1
  have R1 : Hid (∃ cnt', cnt' ≤ cnt + 1 ∧ PinsAt w2 mb cnt' (pinM (upd pin pg (pin pg + 1)))) := Lib.hid ⟨_, by split <;> omega, m1⟩
  have R2 : Hid (Fr (fun j => j = mb) w w2) := Lib.hid ((HA.drew.none).trans m2 (fun j q => .inl q))
  have c3 := (h.fr HA (fun q => q)).cell (i := 3) (by omega)
  have lb := (h.fr HA (fun q => q)).lt
  simp only [clC] at c3
  have e1 : IntKind.i64.wrap ((pin pg : Int) + 1) = ((pin pg + 1 : Nat) : Int) := by rw [IntWalk.i64_in _ (by have := hp; simp only at this; omega)]; omega
  generalize hq : pin pg + 1 = pn1 at *
  generalize pin pg = pn at *
  clear h hm HA ho m1 m2 hmd hp hq
  unfold OpF.val AnF.val
  go_enter Tryz.func44, Tryz.ntmps44
  go_wp2_with fail
  go_region
  go_returns
  exact ⟨rfl, R1.out, R2.out⟩
set_option maxHeartbeats 4000000 in
theorem unpinned_calls {w : World} {b i d mb s cnt : Nat} {ov : Value} {pin : Nat → Nat} {o : OpF} {a : AnF} (ho : o.ok) (hc : cnt < 100000) (hp : pin o.id < 100000) (hp1 : 1 ≤ pin o.id) (h : Blk w b 5 (clC i ov d mb b s)) (hm : PinsAt w mb cnt (pinM pin)) (ne : ¬ b = mb) :
    Calls Tryz.prog 45 #[.pointer (some ⟨b, 0, none⟩), o.val, a.val] w fun e w' => e = .returned (.tuple #[]) ∧ (∃ cnt', cnt' ≤ cnt + 1 ∧ PinsAt w' mb cnt' (pinM (upd pin o.id (pin o.id - 1)))) ∧ Fr (fun j => j = mb) w w' := by
  obtain ⟨k, pg, v⟩ := o
  obtain ⟨er, ag, av⟩ := a
  have hwf := u32wf ho.1
  have hB0 : Blk (w.alloc (.cells #[.int .i64 k, .int .u32 (pg : Nat), .int .u64 (v : Nat)] 73)) w.heap.size 3 (fun j => match j with | 0 => .int .i64 k | 1 => .int .u32 (pg : Nat) | _ => .int .u64 (v : Nat)) := Blk.new _ _ _ 3 _ _ rfl rfl (fun i hi => by
    match i, hi with
    | 0, _ | 1, _ | 2, _ => rfl)
  have HA : Fr NoF w ((w.alloc (.cells #[.int .i64 k, .int .u32 (pg : Nat), .int .u64 (v : Nat)] 73)).alloc (.cells #[.int .i64 (er : Nat), .int .u32 (ag : Nat), .int .u64 (av : Nat)] 75)) := ((Fr.refl NoF w).alloc _).alloc _
  have hmd := hm.fr (HA.drew) (fun q => q)
  have h1 := hmd.look_run MVf hwf
  rw [pinM_get] at h1
  have hmw := hm.lt
  obtain ⟨w2, hrun, m1, m2⟩ := hmd.put_run MVf (by omega) hwf (.int .i64 (pin pg - 1 : Nat))
  have hB2 : Blk w2 w.heap.size 3 (fun j => match j with | 0 => .int .i64 k | 1 => .int .u32 (pg : Nat) | _ => .int .u64 (v : Nat)) := ((hB0.alloc _).drew).fr m2 (fun q => by omega)
  have hC2 : Blk w2 b 5 (clC i ov d mb b s) := (h.fr HA.drew (fun q => q)).fr m2 (fun q => ne q)
  have hcn : (if (pinM pin (pg : Int)).isSome = true then cnt else cnt + 1) ≤ cnt + 1 := by split <;> omega
  have R2 : Hid (Fr (fun j => j = mb) w w2) := Lib.hid ((HA.drew.none).trans m2 (fun j q => .inl q))
  generalize (if (pinM pin (pg : Int)).isSome = true then cnt else cnt + 1) = cn2 at *
  have m1d := m1.fr ((Fr.refl NoF w2).drew) (fun q => q)
  have h2 := m1d.look_run MVf hwf
  rw [updV_same] at h2
  have g3 := hC2.cell (i := 3) (by omega)
  have g4 := hB2.cell (i := 1) (by omega)
  have l2 := hC2.lt
  have l3 := hB2.lt
  have c3 := (h.fr HA (fun q => q)).cell (i := 3) (by omega)
  have lb := (h.fr HA (fun q => q)).lt
  simp only [clC] at c3 g3 g4
  simp only [Option.getD_some] at h2
  have e1 : IntKind.i64.wrap ((pin pg : Int) - 1) = ((pin pg - 1 : Nat) : Int) := by rw [IntWalk.i64_in _ (by have := hp; have := hp1; simp only at *; omega)]; have := hp1; simp only at this; omega
  by_cases hz : pin pg - 1 = 0
  · obtain ⟨w3, hdel, n1, n2⟩ := (m1d.fr ((Fr.refl NoF w2.drew).drew) (fun q => q)).del_run MVf hwf 0
    have em : updV (updV (pinM pin) (pg : Int) (some (.int .i64 (pin pg - 1 : Nat)))) (pg : Int) none = pinM (upd pin pg (pin pg - 1)) := by
      rw [hz, ← pinM_del]
      funext x
      unfold updV
      split <;> rfl
    rw [em] at n1
    have R1 : Hid (∃ cnt', cnt' ≤ cnt + 1 ∧ PinsAt w3 mb cnt' (pinM (upd pin pg (pin pg - 1)))) := Lib.hid ⟨_, by split <;> omega, n1⟩
    have R3 : Hid (Fr (fun j => j = mb) w w3) := Lib.hid (R2.out.trans ((((Fr.refl NoF w2).drew).drew).none.trans n2 (fun j q => .inl q)) (fun j q => .inl q))
    have hzI : ((pin pg - 1 : Nat) : Int) = 0 := by omega
    generalize pin pg - 1 = pn1 at *
    generalize pin pg = pn at *
    have HZI := Lib.hid hzI
    clear hz hzI
    clear h hm HA ho m1 m2 hmd hp hp1 hB0 hB2 hC2 m1d n1 n2 hcn em
    unfold OpF.val AnF.val
    go_enter Tryz.func45, Tryz.ntmps45
    go_wp2_with fail
    go_region
    go_wp2_with fail
    have hzI := HZI.out
    go_region
    go_wp2_with fail
    clear hzI
    go_region
    go_returns
    exact ⟨rfl, R1.out, R3.out⟩
  · rw [pinM_put _ _ _ hz] at m1
    have R1 : Hid (∃ cnt', cnt' ≤ cnt + 1 ∧ PinsAt w2.drew mb cnt' (pinM (upd pin pg (pin pg - 1)))) := Lib.hid ⟨_, hcn, m1.fr ((Fr.refl NoF w2).drew) (fun q => q)⟩
    have R3 : Hid (Fr (fun j => j = mb) w w2.drew) := Lib.hid R2.out.drew
    have hzI : ¬ ((pin pg - 1 : Nat) : Int) = 0 := by omega
    generalize pin pg - 1 = pn1 at *
    generalize pin pg = pn at *
    have HZI := Lib.hid hzI
    clear hz hzI
    clear h hm HA ho m1 m2 hmd hp hp1 hB0 hB2 hC2 m1d hcn
    unfold OpF.val AnF.val
    go_enter Tryz.func45, Tryz.ntmps45
    go_wp2_with fail
    go_region
    go_wp2_with fail
    have hzI := HZI.out
    go_region
    go_wp2
    go_returns
    exact ⟨rfl, R1.out, R3.out⟩
end Go.Proofs.YtmpjnphnljakiaaGreatDoor
namespace Go.Proofs.YtmpjnphnljakiaaGreatDoor
open Go.RowKit Go.Maps
set_option linter.unusedVariables false
set_option linter.unusedSimpArgs false
set_option maxRecDepth 100000
theorem MVc : MV Tryz.prog 94 3 92 .i64 .nilFunc := ⟨Tryz.underlying94, Tryz.underlying3, fun w => by kernel_rfl⟩
def cntM : Int → Option Value := updV (updV (updV (fun _ => none) 0 (some (.func (.func 43) #[] #[]))) 1 (some (.func (.func 44) #[] #[]))) 2 (some (.func (.func 45) #[] #[]))
theorem i64wf {x : Int} (h : -9223372036854775808 ≤ x ∧ x ≤ 9223372036854775807) : (Lit.int .i64 x).wf = true := by simp [Lit.wf, IntKind.min, IntKind.max, IntKind.signed, IntKind.bits]; omega
theorem counting_calls (w : World) : Calls Tryz.prog 33 #[] w fun e w' => e = .returned (.map (some w.heap.size)) ∧ (∃ c, MpV Tryz.prog 3 .i64 .nilFunc w' w.heap.size c cntM) ∧ Fr NoF w w' := by
  have m0 := MpV.made Tryz.prog 3 .i64 .nilFunc w
  obtain ⟨w1, r1, m1, f1⟩ := m0.put_run MVc (by omega) (x := 0) (by decide) (.func (.func 43) #[] #[])
  obtain ⟨w2, r2, m2, f2⟩ := m1.put_run MVc (by split <;> omega) (x := 1) (by decide) (.func (.func 44) #[] #[])
  obtain ⟨w3, r3, m3, f3⟩ := m2.put_run MVc (by repeat (first | omega | split)) (x := 2) (by decide) (.func (.func 45) #[] #[])
  have HM : Hid (∃ c, MpV Tryz.prog 3 .i64 .nilFunc w3 w.heap.size c cntM) := Lib.hid ⟨_, m3⟩
  have HF : Hid (Fr NoF w w3) := Lib.hid ((((Fr.refl NoF w).alloc (.map #[] 0)).trans f1 (fun j q => .inr (Nat.le_of_eq q.symm))).trans f2 (fun j q => .inr (Nat.le_of_eq q.symm)) |>.trans f3 (fun j q => .inr (Nat.le_of_eq q.symm)))
  clear m0 m1 m2 m3 f1 f2 f3
  have hmm := @run_makeMap Tryz.prog
  go_enter Tryz.func33, Tryz.ntmps33
  go_wp2
  go_returns
  exact ⟨rfl, HM.out, HF.out⟩
end Go.Proofs.YtmpjnphnljakiaaGreatDoor
namespace Go.Proofs.YtmpjnphnljakiaaGreatDoor
open Go.RowKit
set_option linter.unusedVariables false

/-- The levels below k are of S', the others of S. -/
def mixT (S S' : Nat → Bool) (k : Nat) : Nat → Nat → Bool := fun i => if i < k then lev S' i else lev S i
theorem mixT_0 (S S' : Nat → Bool) : mixT S S' 0 = lev S := by funext i; unfold mixT; rw [if_neg (by omega)]
theorem mixT_at (S S' : Nat → Bool) (k : Nat) : mixT S S' k k = lev S k := by unfold mixT; rw [if_neg (by omega)]
theorem mixT_step (S S' : Nat → Bool) (k : Nat) : updT (mixT S S' k) k (lev S' k) = mixT S S' (k + 1) := by
  funext i
  unfold updT mixT
  by_cases e : i = k
  · subst e; rw [if_pos rfl, if_pos (by omega)]
  · rw [if_neg e]
    by_cases q : i < k
    · rw [if_pos q, if_pos (by omega)]
    · rw [if_neg q, if_neg (by omega)]
theorem word_pow (y : Nat) : IntKind.u64.wrap (2 ^ (y % 64)) = ((2 ^ (y % 64) : Nat) : Int) := by
  have hp : 2 ^ (y % 64) < 2 ^ 64 := Nat.pow_lt_pow_right (by omega) (Nat.mod_lt _ (by omega))
  rw [IntKind.wrap_u64]
  have : ((2 : Int) ^ (y % 64)) = ((2 ^ (y % 64) : Nat) : Int) := by simp
  rw [this]
  clear this
  generalize 2 ^ (y % 64) = p at *
  have hp' : p < 18446744073709551616 := hp
  omega
theorem word_or {W : Nat} (hW : W < 18446744073709551616) (y : Nat) : bits BinOp.or IntKind.u64 (W : Int) (IntKind.u64.wrap (2 ^ (y % 64))) = ((W ||| 2 ^ (y % 64) : Nat) : Int) := by
  have hp : 2 ^ (y % 64) < 2 ^ 64 := Nat.pow_lt_pow_right (by omega) (Nat.mod_lt _ (by omega))
  rw [word_pow, u64_or_nat _ _ hW (by omega)]
theorem word_andNot {W : Nat} (hW : W < 18446744073709551616) (y : Nat) : bits BinOp.andNot IntKind.u64 (W : Int) (IntKind.u64.wrap (2 ^ (y % 64))) = ((W &&& (18446744073709551615 - 2 ^ (y % 64)) : Nat) : Int) := by
  have hp : 2 ^ (y % 64) < 2 ^ 64 := Nat.pow_lt_pow_right (by omega) (Nat.mod_lt _ (by omega))
  rw [word_pow, u64_andNot_nat _ _ hW (by omega)]
section
variable {w w' : World} {b off N bound L : Nat} {c : Nat → Value} {S : Nat → Bool} {v : Value} {h : Nat → Nat} {T : Nat → Nat → Bool}
/-- What may change: the block in which the Set lies, and its levels'. -/
def SF (b : Nat) (v : Value) (h : Nat → Nat) (L : Nat) : Nat → Prop := fun k => k = b ∨ LF v h L k
theorem add_dom (H : LC w b off N c bound S v h L) {x : Nat} (hx : x < bound) : ∀ y, updB S x true y = true → y < bound := by
  intro y hy
  by_cases e : y = x
  · omega
  · rw [updB_other _ _ e] at hy; exact H.ls.dom y hy
theorem drop_dom (H : LC w b off N c bound S v h L) (x : Nat) : ∀ y, updB S x false y = true → y < bound := by
  intro y hy
  by_cases e : y = x
  · subst e; rw [updB_same] at hy; cases hy
  · rw [updB_other _ _ e] at hy; exact H.ls.dom y hy
set_option maxHeartbeats 2000000 in
theorem add_in (H : LC w b off N c bound S v h L) {x : Nat} (hx : x < bound) (hS : S x = false) : Calls Tryz.prog 22 #[.pointer (some ⟨b, off, none⟩), .int .i64 x] w fun e w' => e = .returned (.tuple #[]) ∧ LC w' b off N (upd c (off + 1) (.int .i64 ((cntB S bound : Nat) + 1 : Int))) bound (updB S x true) v h L ∧ Fr (SF b v h L) w w' := by
  have hHas := Lib.hid (has_in H hx)
  rw [hS] at hHas
  have q0 := H.cell0
  have q1 := H.cell1
  have q2 := H.cell2
  have lb := H.blk.lt
  have fb := H.blk.frozen (off + 1)
  have hL := H.ls.r.one
  have hL4 := H.ls.r.small
  have hhi := H.ls.r.hi
  have hcnt := cntB_le S bound
  have HD := Lib.hid (add_dom H hx)
  have HNB := Lib.hid H.nb
  have HC := Lib.hid (And.intro H.c0 H.c2)
  have hinb := H.inb
  have HCN := Lib.hid (cntB_add S hS bound hx)
  have HDV := Lib.hid (fun k => dv_lt hx k)
  have f1 : Fr (fun k => k = b) w (w.setCell ⟨b, off + 1, none⟩ (.int .i64 ((cntB S bound : Nat) + 1 : Int))) := (Fr.refl (fun k => k = b) w).setCell (p := ⟨b, off + 1, none⟩) (.inl rfl) _
  have HR0 := Lib.hid (H.ls.r.fr f1 (fun k hk e => H.nb (e ▸ hk)))
  have HB0 := Lib.hid (H.blk.set (off + 1) (.int .i64 ((cntB S bound : Nat) + 1 : Int)))
  have HF0 := Lib.hid f1
  obtain ⟨g, cap, rfl, g1, g2⟩ := H.ls.r.shape
  have hx0 : decide ((x : Int) < 0) = false := by simp
  have hx1 : decide ((bound : Int) ≤ (x : Int)) = false := by simpa using hx
  have hwc : IntKind.i64.wrap ((cntB S bound : Nat) + 1 : Int) = ((cntB S bound + 1 : Nat) : Int) := IntWalk.i64_in _ (by omega)
  generalize cntB S bound = cn at *
  clear H hS f1
  go_enter Tryz.func22, Tryz.ntmps22
  go_wp2_with fail
  refine hHas.out.mono ?_
  rintro e w0 ⟨rfl, rfl⟩
  clear hHas
  go_wp2
  go_loopw [1, 33] (fun xv iv wr => ∃ k : Nat, k ≤ L ∧ iv = .int .i64 k ∧ xv = .int .i64 (dv x k : Nat) ∧ Hid (LR wr bound (.slice (some ⟨g, 0, none⟩) L cap) h L (mixT S (updB S x true) k)) ∧ Hid (Blk wr b N (upd c (off + 1) (.int .i64 ((cn : Nat) + 1 : Int)))) ∧ Hid (Fr (SF b (.slice (some ⟨g, 0, none⟩) L cap) h L) w wr)) (fun _ iv _ => L - (intOf iv).toNat)
  case atStart => exact ⟨0, Nat.zero_le _, rfl, rfl, by rw [mixT_0]; exact HR0.out, HB0.out, HF0.out.mono (fun i q => .inl q)⟩
  case round =>
    obtain ⟨k, hk, rfl, rfl, HR, HB, HF⟩ := hrel
    by_cases hlt : k < L
    · obtain ⟨r0, r1, r2, r3, r6, r4, r5⟩ := HR.out.at hlt (HDV.out k)
      rw [mixT_at] at r3
      have HST : Hid (LR (wr.setCell ⟨h k, dv x k / 64, none⟩ (.int .u64 ((wordOf (lev S k) (dv x k / 64) ||| 2 ^ (dv x k % 64) : Nat) : Int))) bound (.slice (some ⟨g, 0, none⟩) L cap) h L (mixT S (updB S x true) (k + 1))) := by
        have := HR.out.set hlt (x := dv x k) true
        rw [mixT_at, wordOf_add, ← lev_add, mixT_step] at this
        exact this
      have fst : Fr (SF b (.slice (some ⟨g, 0, none⟩) L cap) h L) w (wr.setCell ⟨h k, dv x k / 64, none⟩ (.int .u64 ((wordOf (lev S k) (dv x k / 64) ||| 2 ^ (dv x k % 64) : Nat) : Int))) := HF.out.setCell (p := ⟨h k, dv x k / 64, none⟩) (.inl (.inr (.inr ⟨k, hlt, rfl⟩))) _
      have HFS := Lib.hid fst
      have HBS : Hid (Blk (wr.setCell ⟨h k, dv x k / 64, none⟩ (.int .u64 ((wordOf (lev S k) (dv x k / 64) ||| 2 ^ (dv x k % 64) : Nat) : Int))) b N (upd c (off + 1) (.int .i64 ((cn : Nat) + 1 : Int)))) := HB.out.other (fun e => HNB.out (.inr ⟨k, hlt, e.symm⟩)) _
      have hW := wordOf_lt (lev S k) (dv x k / 64)
      clear HR HB HF fst
      generalize wordOf (lev S k) (dv x k / 64) = W at *
      generalize h k = hb at *
      have HY : Hid (dv x (k + 1) = dv x k / 64) := rfl
      have hyb : dv x k ≤ 65535 := by have := dv_le x k; omega
      generalize dv x k = y at *
      have hw1 : IntKind.i64.wrap ((y : Int) / 64) = (y : Int) / 64 := IntWalk.i64_in _ (by omega)
      have hi0 : 0 ≤ (y : Int) / 64 := by omega
      have hi1 : (y : Int) / 64 < (szs bound k : Nat) := by omega
      have hi2 : ((y : Int) / 64).toNat = y / 64 := by omega
      have key : bits BinOp.or IntKind.u64 (W : Int) (IntKind.u64.wrap (2 ^ (y % 64))) = ((W ||| 2 ^ (y % 64) : Nat) : Int) := word_or hW y
      go_wp2
      go_region
      go_wp2
      go_roundw
      case rel => exact ⟨k + 1, by omega, by go_num, by rw [HY.out]; go_num, HST.out.fr ((Fr.refl NoF _).drew) (fun _ _ q => q), HBS.out.drew, HFS.out.drew⟩
      case measure => simp [intOf]; omega
    · obtain rfl : k = L := by omega
      clear hlt
      go_wp2
      go_returns
      exact ⟨rfl, ⟨HB.out, hinb, by rw [upd_other _ _ (by omega)]; exact HC.out.1, by rw [upd_same, HCN.out]; rfl, by rw [upd_other _ _ (by omega)]; exact HC.out.2, ⟨HR.out.congr (fun i hi => by unfold mixT; rw [if_pos hi]), HD.out⟩, HNB.out⟩, HF.out⟩
/-- Drop: what isn't there doesn't go. -/
theorem drop_no (H : LC w b off N c bound S v h L) {x : Int} (hS : hasZ S x = false) : Calls Tryz.prog 69 #[.pointer (some ⟨b, off, none⟩), .int .i64 x] w fun e w' => e = .returned (.tuple #[]) ∧ w = w' := by
  have hHas := Lib.hid (has_calls H x)
  rw [hS] at hHas
  clear H hS
  go_enter Tryz.func69, Tryz.ntmps69
  go_wp2_with fail
  refine hHas.out.mono ?_
  rintro e w0 ⟨rfl, rfl⟩
  go_wp2
  go_returns
  exact ⟨rfl, rfl⟩
theorem lev_same {S S' : Nat → Bool} {k : Nat} (e : lev S' k = lev S k) : ∀ i, k ≤ i → lev S' i = lev S i := by
  intro i hi
  induction i with
  | zero => obtain rfl : k = 0 := by omega
            exact e
  | succ i ih =>
    by_cases q : k = i + 1
    · subst q; exact e
    · show up (lev S' i) = up (lev S i)
      rw [ih (by omega)]
set_option maxHeartbeats 2000000 in
theorem drop_in (H : LC w b off N c bound S v h L) {x : Nat} (hS : S x = true) : Calls Tryz.prog 69 #[.pointer (some ⟨b, off, none⟩), .int .i64 x] w fun e w' => e = .returned (.tuple #[]) ∧ LC w' b off N (upd c (off + 1) (.int .i64 ((cntB S bound : Nat) - 1 : Int))) bound (updB S x false) v h L ∧ Fr (SF b v h L) w w' := by
  have hx : x < bound := H.ls.dom x hS
  have hHas := Lib.hid (has_in H hx)
  rw [hS] at hHas
  have q1 := H.cell1
  have q2 := H.cell2
  have lb := H.blk.lt
  have fb := H.blk.frozen (off + 1)
  have hL := H.ls.r.one
  have hL4 := H.ls.r.small
  have hhi := H.ls.r.hi
  have hcnt := cntB_le S bound
  have HD := Lib.hid (drop_dom H x)
  have HNB := Lib.hid H.nb
  have HC := Lib.hid (And.intro H.c0 H.c2)
  have hinb := H.inb
  have hcn := cntB_drop S hS bound hx
  have HCN := Lib.hid hcn
  have HDV := Lib.hid (fun k => dv_lt hx k)
  have f1 : Fr (fun k => k = b) w (w.setCell ⟨b, off + 1, none⟩ (.int .i64 ((cntB S bound : Nat) - 1 : Int))) := (Fr.refl (fun k => k = b) w).setCell (p := ⟨b, off + 1, none⟩) (.inl rfl) _
  have HR0 := Lib.hid (H.ls.r.fr f1 (fun k hk e => H.nb (e ▸ hk)))
  have HB0 := Lib.hid (H.blk.set (off + 1) (.int .i64 ((cntB S bound : Nat) - 1 : Int)))
  have HF0 := Lib.hid f1
  obtain ⟨g, cap, rfl, g1, g2⟩ := H.ls.r.shape
  have hc1 : 1 ≤ cntB S bound := by omega
  clear hcn
  generalize cntB S bound = cn at *
  have hwc : IntKind.i64.wrap ((cn : Int) - 1) = (cn : Int) - 1 := IntWalk.i64_in _ (by omega)
  clear H hS f1
  go_enter Tryz.func69, Tryz.ntmps69
  go_wp2_with fail
  refine hHas.out.mono ?_
  rintro e w0 ⟨rfl, rfl⟩
  clear hHas
  go_wp2
  go_loopw [1, 22] (fun xv iv wr => ∃ k : Nat, k ≤ L ∧ iv = .int .i64 k ∧ xv = .int .i64 (dv x k : Nat) ∧ Hid (lev (updB S x false) k = updB (lev S k) (dv x k) false) ∧ Hid (LR wr bound (.slice (some ⟨g, 0, none⟩) L cap) h L (mixT S (updB S x false) k)) ∧ Hid (Blk wr b N (upd c (off + 1) (.int .i64 ((cn : Nat) - 1 : Int)))) ∧ Hid (Fr (SF b (.slice (some ⟨g, 0, none⟩) L cap) h L) w wr)) (fun _ iv _ => L - (intOf iv).toNat)
  case atStart => exact ⟨0, Nat.zero_le _, rfl, rfl, rfl, by rw [mixT_0]; exact HR0.out, HB0.out, HF0.out.mono (fun i q => .inl q)⟩
  case round =>
    obtain ⟨k, hk, rfl, rfl, HLV, HR, HB, HF⟩ := hrel
    by_cases hlt : k < L
    · obtain ⟨r0, r1, r2, r3, r6, r4, r5⟩ := HR.out.at hlt (HDV.out k)
      rw [mixT_at] at r3
      have HST : Hid (LR (wr.setCell ⟨h k, dv x k / 64, none⟩ (.int .u64 ((wordOf (updB (lev S k) (dv x k) false) (dv x k / 64) : Nat) : Int))) bound (.slice (some ⟨g, 0, none⟩) L cap) h L (mixT S (updB S x false) (k + 1))) := by
        have := HR.out.set hlt (x := dv x k) false
        rw [mixT_at, ← HLV.out, mixT_step, HLV.out] at this
        exact this
      have fst : Fr (SF b (.slice (some ⟨g, 0, none⟩) L cap) h L) w (wr.setCell ⟨h k, dv x k / 64, none⟩ (.int .u64 ((wordOf (updB (lev S k) (dv x k) false) (dv x k / 64) : Nat) : Int))) := HF.out.setCell (p := ⟨h k, dv x k / 64, none⟩) (.inl (.inr (.inr ⟨k, hlt, rfl⟩))) _
      have HFS := Lib.hid fst
      have HBS : Hid (Blk (wr.setCell ⟨h k, dv x k / 64, none⟩ (.int .u64 ((wordOf (updB (lev S k) (dv x k) false) (dv x k / 64) : Nat) : Int))) b N (upd c (off + 1) (.int .i64 ((cn : Nat) - 1 : Int)))) := HB.out.other (fun e => HNB.out (.inr ⟨k, hlt, e.symm⟩)) _
      have hW := wordOf_lt (lev S k) (dv x k / 64)
      have key := word_andNot hW (dv x k)
      rw [← wordOf_drop] at key
      have HU0 : Hid (wordOf (updB (lev S k) (dv x k) false) (dv x k / 64) = 0 → lev (updB S x false) (k + 1) = updB (lev S (k + 1)) (dv x (k + 1)) false) := fun q => by show up (lev (updB S x false) k) = _; rw [HLV.out, up_drop0 _ _ q]; rfl
      have HU1 : Hid (¬ wordOf (updB (lev S k) (dv x k) false) (dv x k / 64) = 0 → ∀ i, k + 1 ≤ i → lev (updB S x false) i = lev S i) := fun q => lev_same (by show up (lev (updB S x false) k) = up (lev S k); rw [HLV.out, up_drop1 _ _ q])
      clear HR HB HF fst HLV
      have HY : Hid (dv x (k + 1) = dv x k / 64) := rfl
      have hyb : dv x k ≤ 65535 := by have := dv_le x k; omega
      generalize wordOf (updB (lev S k) (dv x k) false) (dv x k / 64) = W2 at *
      generalize wordOf (lev S k) (dv x k / 64) = W at *
      have HHB : Hid (h k = h k) := rfl
      generalize h k = hb at *
      generalize dv x k = y at *
      have hw1 : IntKind.i64.wrap ((y : Int) / 64) = (y : Int) / 64 := IntWalk.i64_in _ (by omega)
      have hi0 : 0 ≤ (y : Int) / 64 := by omega
      have hi1 : (y : Int) / 64 < (szs bound k : Nat) := by omega
      have hi2 : ((y : Int) / 64).toNat = y / 64 := by omega
      go_wp2
      go_region
      by_cases h0 : W2 = 0
      · have HH0 := Lib.hid (HU0.out h0)
        have hz : ((W2 : Int) != 0) = false := by simp [h0]
        clear h0 HU0 HU1
        go_wp2
        go_roundw
        case rel => exact ⟨k + 1, by omega, by go_num, by rw [HY.out]; go_num, HH0.out, HST.out.fr ((Fr.refl NoF _).drew) (fun _ _ q => q), HBS.out.drew, HFS.out.drew⟩
        case measure => simp [intOf]; omega
      · have HH1 := Lib.hid (HU1.out h0)
        have hz : ((W2 : Int) != 0) = true := by simp [h0]
        clear h0 HU0 HU1
        go_wp2
        go_returns
        exact ⟨rfl, ⟨HBS.out.drew, hinb, by rw [upd_other _ _ (by omega)]; exact HC.out.1, by rw [upd_same]; have := HCN.out; congr 1; omega, by rw [upd_other _ _ (by omega)]; exact HC.out.2, ⟨(HST.out.fr ((Fr.refl NoF _).drew) (fun _ _ q => q)).congr (fun i hi => by
          unfold mixT
          by_cases q : i < k + 1
          · rw [if_pos q]
          · rw [if_neg q]; exact (HH1.out i (by omega)).symm), HD.out⟩, HNB.out⟩, HFS.out.drew⟩
    · obtain rfl : k = L := by omega
      clear hlt
      go_wp2
      go_returns
      exact ⟨rfl, ⟨HB.out, hinb, by rw [upd_other _ _ (by omega)]; exact HC.out.1, by rw [upd_same]; have := HCN.out; congr 1; omega, by rw [upd_other _ _ (by omega)]; exact HC.out.2, ⟨HR.out.congr (fun i hi => by unfold mixT; rw [if_pos hi]), HD.out⟩, HNB.out⟩, HF.out⟩
end
end Go.Proofs.YtmpjnphnljakiaaGreatDoor
namespace Go.Proofs.YtmpjnphnljakiaaGreatDoor
open Go.RowKit
set_option linter.unusedVariables false

section
variable {w w' : World} {b off N bound L : Nat} {c : Nat → Value} {S : Nat → Bool} {v : Value} {h : Nat → Nat} {T : Nat → Nat → Bool}
theorem len_calls (H : LC w b off N c bound S v h L) : Calls Tryz.prog 59 #[.pointer (some ⟨b, off, none⟩)] w fun e w' => e = .returned (.int .i64 (cntB S bound : Nat)) ∧ w = w' := by
  have q1 := H.cell1
  have lb := H.blk.lt
  clear H
  go_enter Tryz.func59, Tryz.ntmps59
  go_wp2
  go_returns
  exact ⟨rfl, rfl⟩
theorem first_none (H : LC w b off N c bound S v h L) (h0 : cntB S bound = 0) : Calls Tryz.prog 62 #[.pointer (some ⟨b, off, none⟩)] w fun e w' => e = .returned (.int .i64 (-1)) ∧ w = w' := by
  have q1 := H.cell1
  rw [h0] at q1
  have lb := H.blk.lt
  clear H h0
  go_enter Tryz.func62, Tryz.ntmps62
  go_wp2
  go_returns
  exact ⟨rfl, rfl⟩
theorem lev_top (H : LC w b off N c bound S v h L) {x : Nat} (hx : S x = true) : IsLeast (lev S L) 0 := by
  refine ⟨?_, fun y hy => by omega⟩
  have h1 := lev_some hx L
  obtain ⟨l, rfl⟩ : ∃ l, L = l + 1 := ⟨L - 1, by have := H.ls.r.one; omega⟩
  have h2 := lev_dom H.ls.dom l _ h1
  have h3 := H.ls.r.top
  rw [show l + 1 - 1 = l from rfl] at h3
  have : dv x (l + 1) = 0 := by omega
  rw [this] at h1
  exact h1
set_option maxHeartbeats 2000000 in
theorem first_some (hT : TabT w) (H : LC w b off N c bound S v h L) {x : Nat} (hx : IsLeast S x) : Calls Tryz.prog 62 #[.pointer (some ⟨b, off, none⟩)] w fun e w' => e = .returned (.int .i64 x) ∧ w = w' := by
  have HTOP := Lib.hid (lev_top H hx.1)
  have HX := Lib.hid hx
  have q1 := H.cell1
  have q2 := H.cell2
  have lb := H.blk.lt
  have hL := H.ls.r.one
  have hL4 := H.ls.r.small
  have hhi := H.ls.r.hi
  have hcz : ¬ cntB S bound = 0 := fun q => by have := cntB_zero q x (H.ls.dom x hx.1); rw [hx.1] at this; cases this
  have HR := Lib.hid H.ls.r
  have HDM := Lib.hid (lev_dom H.ls.dom)
  have HT := Lib.hid hT
  obtain ⟨g, cap, rfl, g1, g2⟩ := H.ls.r.shape
  generalize cntB S bound = cn at *
  have hcq : ((cn : Int) == 0) = false := by simp; omega
  have hlw : IntKind.i64.wrap ((L : Int) - 1) = (L : Int) - 1 := IntWalk.i64_in _ (by omega)
  clear H hx hT hcz
  go_enter Tryz.func62, Tryz.ntmps62
  go_wp2
  go_loopw [3, 4] (fun xv iv wr => ∃ k y : Nat, k ≤ L ∧ iv = .int .i64 ((k : Int) - 1) ∧ xv = .int .i64 (y : Nat) ∧ Hid (IsLeast (lev S k) y) ∧ w = wr) (fun _ iv _ => (intOf iv + 1).toNat)
  case atStart => exact ⟨L, 0, Nat.le_refl _, rfl, rfl, HTOP.out, rfl⟩
  case round =>
    obtain ⟨k, y, hk, rfl, rfl, HY, rfl⟩ := hrel
    cases k with
    | zero =>
      have e : y = x := HY.out.unique HX.out
      subst e
      go_wp2
      go_returns
      exact ⟨rfl, rfl⟩
    | succ k =>
      have hys : y < szs bound k := HDM.out k y HY.out.1
      obtain ⟨d1, d2⟩ := IsLeast.down HY.out
      have HY2 := Lib.hid d2
      obtain ⟨r0, r1, r2, r3, r6, r4, r5⟩ := HR.out.at (k := k) (by omega) hys
      have HTZ := Lib.hid (tz_calls HT.out (wordOf_lt (lev S k) y) d1)
      obtain ⟨z1, _, _⟩ := ctz_first d1 (wordOf_lt (lev S k) y)
      clear d1 d2 HY
      generalize Lib.ctz 64 (wordOf (lev S k) y) = z at *
      generalize wordOf (lev S k) y = W at *
      generalize h k = hb at *
      have hkk : ((k + 1 : Nat) : Int) - 1 = (k : Int) := by omega
      rw [hkk]
      have hwm : IntKind.i64.wrap ((y : Int) * 64) = (y : Int) * 64 := IntWalk.i64_in _ (by omega)
      have hwa : IntKind.i64.wrap ((y : Int) * 64 + (z : Int)) = (y : Int) * 64 + (z : Int) := IntWalk.i64_in _ (by omega)
      go_wp2_with fail
      refine HTZ.out.mono ?_
      rintro e w' ⟨rfl, rfl⟩
      go_wp2
      go_roundw
      case rel => exact ⟨k, y * 64 + z, by omega, by go_num, by go_num, HY2.out, by first | rfl | trivial⟩
      case measure => simp [intOf] <;> omega
/-- The least one: a number that is there, or there is none. -/
theorem first_calls (hT : TabT w) (H : LC w b off N c bound S v h L) : Calls Tryz.prog 62 #[.pointer (some ⟨b, off, none⟩)] w fun e w' => w = w' ∧ ((cntB S bound = 0 ∧ (∀ x, S x = false) ∧ e = .returned (.int .i64 (-1))) ∨ ∃ x, x < bound ∧ IsLeast S x ∧ e = .returned (.int .i64 (x : Nat))) := by
  by_cases h0 : cntB S bound = 0
  · refine (first_none H h0).mono ?_
    rintro e w' ⟨rfl, rfl⟩
    exact ⟨rfl, .inl ⟨h0, fun x => by
      by_cases hx : x < bound
      · exact cntB_zero h0 x hx
      · cases e : S x with
        | false => rfl
        | true => exact absurd (H.ls.dom x e) hx, rfl⟩⟩
  · obtain ⟨x, hx, hl⟩ := least_ex (cntB_some h0)
    refine (first_some hT H hl).mono ?_
    rintro e w' ⟨rfl, rfl⟩
    exact ⟨rfl, .inr ⟨x, hx, hl, rfl⟩⟩
end
end Go.Proofs.YtmpjnphnljakiaaGreatDoor

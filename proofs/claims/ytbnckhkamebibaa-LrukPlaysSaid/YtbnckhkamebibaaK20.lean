/-
  lruk's past of a page: touched.
  lruk's past of a page: touched, far from the last touch.
  A Queue as a function: a key, or none, of each number.
  lruk's candidates in memory: has, put, drop, len.
  lruk's candidates in memory: age, least.
  lruk's LRUK in memory: isFrame, has, rank, Size, Miss.
  lruk's LRUK in memory: what a write changes; rank, empty.
-/
import Derived.Test.YtbnckhkamebibaaK04
import Derived.Test.YtbnckhkamebibaaK19
import Derived.Handy
import Derived.ProofKit
import Derived.IntWalk
import Derived.Laws.Rows
import Derived.StillTailTactics
import Derived.Deep.QuietTactic
import Derived.BigQuiet
namespace Go.Proofs.Ytbnckhkamebibaa
open Go.RowKit
set_option linter.unusedVariables false

/-- A past: its last touch, eight times. -/
def pastV (last : Int) (t : Nat → Int) : Value := .agg #[.int .i64 last, .int .i64 (t 0), .int .i64 (t 1), .int .i64 (t 2), .int .i64 (t 3), .int .i64 (t 4), .int .i64 (t 5), .int .i64 (t 6), .int .i64 (t 7)]
def pastC (last : Int) (t : Nat → Int) : Nat → Value := fun i => if i = 0 then .int .i64 last else .int .i64 (t (i - 1))
/-- .. behind one touch more, of which k times are told: the times from place i on are new. -/
def timesF (t : Nat → Int) (took : Int) (k i : Nat) : Nat → Int := fun j => if i < j ∧ j < k then (if t (j - 1) = 0 then 0 else t (j - 1) + took) else t j
def touchT (last : Int) (t : Nat → Int) (now near : Int) (k : Nat) : Nat → Int :=
  if ¬ last = 0 ∧ now - last ≤ near then t else upd (timesF t (last - t 0) k 0) 0 now
theorem timesF_top (t : Nat → Int) (took : Int) (k : Nat) : timesF t took k (k - 1) = t := by
  funext j
  unfold timesF
  rw [if_neg (by omega)]
theorem timesF_step (t : Nat → Int) (took : Int) {k i : Nat} (hi : 0 < i) (hk : i < k) : timesF t took k (i - 1) = upd (timesF t took k i) i (if t (i - 1) = 0 then 0 else t (i - 1) + took) := by
  funext j
  by_cases e : j = i
  · subst e
    rw [upd_same]; unfold timesF; rw [if_pos ⟨by omega, hk⟩]
  · rw [upd_other _ _ e]; unfold timesF
    by_cases h : i < j ∧ j < k
    · rw [if_pos h, if_pos ⟨by omega, h.2⟩]
    · rw [if_neg h, if_neg (by omega)]
theorem pastC_set (last : Int) (t : Nat → Int) (i : Nat) (z : Int) : upd (pastC last t) (1 + i) (.int .i64 z) = pastC last (upd t i z) := by
  funext j
  by_cases e : j = 1 + i
  · subst e
    rw [upd_same]; unfold pastC; rw [if_neg (by omega), show 1 + i - 1 = i from by omega, upd_same]
  · rw [upd_other _ _ e]; unfold pastC
    by_cases h : j = 0
    · rw [if_pos h, if_pos h]
    · rw [if_neg h, if_neg h, upd_other _ _ (by omega)]
theorem pastC_last (last : Int) (t : Nat → Int) (z : Int) : upd (pastC last t) 0 (.int .i64 z) = pastC z t := by
  funext j
  by_cases e : j = 0
  · subst e; rw [upd_same]; rfl
  · rw [upd_other _ _ e]; unfold pastC; rw [if_neg e, if_neg e]
section
variable {w w' : World}
set_option maxRecDepth 100000 in
set_option maxHeartbeats 4000000 in
theorem touched_near (last : Int) (t : Nat → Int) (now near : Int) (k : Nat) (h0 : ¬ last = 0) (hnear : now - last ≤ near) (hb : 0 ≤ last ∧ last ≤ now ∧ now < 100000000) : Calls Try.prog 29 #[pastV last t, .int .i64 now, .int .i64 near, .int .i64 k] w fun e w' => e = .returned (pastV now t) ∧ Fr NoF w w' := by
  have g0 : (last != 0) = true := by simpa using h0
  have hwr : IntKind.i64.wrap (now - last) = now - last := IntWalk.i64_in _ (by omega)
  unfold pastV
  generalize t 0 = t0
  generalize t 1 = t1
  generalize t 2 = t2
  generalize t 3 = t3
  generalize t 4 = t4
  generalize t 5 = t5
  generalize t 6 = t6
  generalize t 7 = t7
  clear h0
  go_enter Try.func29, Try.ntmps29
  go_wp2
  go_returns
  exact ⟨rfl, ((Fr.refl NoF w).alloc _).alloc _⟩
end
end Go.Proofs.Ytbnckhkamebibaa
namespace Go.Proofs.Ytbnckhkamebibaa
open Go.RowKit
set_option linter.unusedVariables false

/-- A result that is a struct in a block. -/
theorem results_blk {P : Program} {fn : Func} {p : Tmp} {ty : TypeId} (h : fn.results = #[.cell p ty]) (tmps : Array Value) (w : World) {g N : Nat} {c : Nat → Value} {d : TypeDesc} (hb : Blk w g N c) (hp : tmps.getD p undef = .pointer (some ⟨g, 0, none⟩))
    (hu : P.underlying ty = some d) (hd : (match d with | .struct _ | .array _ _ => true | _ => false) = true) (hi : (P.info? ty).map (·.size) = some N) :
    (results fn tmps).run P w = .ok (.agg ((List.range N).map c).toArray) w := by
  obtain ⟨cs, t, hh, hs, hc⟩ := hb
  have e : cs = ((List.range N).map c).toArray := by
    apply Array.ext_getElem?
    intro i
    by_cases hi : i < N
    · rw [hc i hi]; simp [hi]
    · rw [Array.getElem?_eq_none (by omega)]; simp [hi]
  rw [← e]
  exact results_cell_row h tmps w g t cs (0, 0) d hp hh hu hd (by rw [hi, hs])
section
variable {w w' : World}
set_option maxRecDepth 100000 in
set_option maxHeartbeats 4000000 in
theorem touched_far (last : Int) (t : Nat → Int) (now near : Int) (k : Nat) (hfar : last = 0 ∨ near < now - last) (hk : 1 ≤ k ∧ k ≤ 8) (hb : 0 ≤ last ∧ last ≤ now ∧ now < 100000000) (ht : ∀ j, 0 ≤ t j ∧ t j ≤ last ∧ t j ≤ t 0) : Calls Try.prog 29 #[pastV last t, .int .i64 now, .int .i64 near, .int .i64 k] w fun e w' => e = .returned (pastV now (upd (timesF t (last - t 0) k 0) 0 now)) ∧ Fr NoF w w' := by
  have b1 : Blk ((w.alloc (.cells #[.int .i64 last, .int .i64 (t 0), .int .i64 (t 1), .int .i64 (t 2), .int .i64 (t 3), .int .i64 (t 4), .int .i64 (t 5), .int .i64 (t 6), .int .i64 (t 7)] 85)).alloc (.cells #[.int .i64 0, .int .i64 0, .int .i64 0, .int .i64 0, .int .i64 0, .int .i64 0, .int .i64 0, .int .i64 0, .int .i64 0] 85)) w.heap.size 9 (pastC last t) := (Blk.new w _ 85 9 _ _ rfl rfl (fun i hi => by
    match i, hi with
    | 0, _ => rfl
    | 1, _ => rfl
    | 2, _ => rfl
    | 3, _ => rfl
    | 4, _ => rfl
    | 5, _ => rfl
    | 6, _ => rfl
    | 7, _ => rfl
    | 8, _ => rfl)).alloc _
  have b2 : Blk ((w.alloc (.cells #[.int .i64 last, .int .i64 (t 0), .int .i64 (t 1), .int .i64 (t 2), .int .i64 (t 3), .int .i64 (t 4), .int .i64 (t 5), .int .i64 (t 6), .int .i64 (t 7)] 85)).alloc (.cells #[.int .i64 0, .int .i64 0, .int .i64 0, .int .i64 0, .int .i64 0, .int .i64 0, .int .i64 0, .int .i64 0, .int .i64 0] 85)) (w.heap.size + 1) 9 (pastC 0 (fun _ => 0)) := Blk.new _ _ 85 9 _ _ (by simp) rfl (fun i hi => by
    match i, hi with
    | 0, _ => rfl
    | 1, _ => rfl
    | 2, _ => rfl
    | 3, _ => rfl
    | 4, _ => rfl
    | 5, _ => rfl
    | 6, _ => rfl
    | 7, _ => rfl
    | 8, _ => rfl)
  have fA : Fr NoF w ((w.alloc (.cells #[.int .i64 last, .int .i64 (t 0), .int .i64 (t 1), .int .i64 (t 2), .int .i64 (t 3), .int .i64 (t 4), .int .i64 (t 5), .int .i64 (t 6), .int .i64 (t 7)] 85)).alloc (.cells #[.int .i64 0, .int .i64 0, .int .i64 0, .int .i64 0, .int .i64 0, .int .i64 0, .int .i64 0, .int .i64 0, .int .i64 0] 85)) := ((Fr.refl NoF w).alloc _).alloc _
  have HB1 := Lib.hid b1
  have HB2 := Lib.hid b2
  have HFA := Lib.hid fA
  have HT := Lib.hid ht
  have c0 : ((w.alloc (.cells #[.int .i64 last, .int .i64 (t 0), .int .i64 (t 1), .int .i64 (t 2), .int .i64 (t 3), .int .i64 (t 4), .int .i64 (t 5), .int .i64 (t 6), .int .i64 (t 7)] 85)).alloc (.cells #[.int .i64 0, .int .i64 0, .int .i64 0, .int .i64 0, .int .i64 0, .int .i64 0, .int .i64 0, .int .i64 0, .int .i64 0] 85)).cell? ⟨w.heap.size, 0, none⟩ = some (.int .i64 last) := b1.cell (i := 0) (by omega)
  have c1 : ((w.alloc (.cells #[.int .i64 last, .int .i64 (t 0), .int .i64 (t 1), .int .i64 (t 2), .int .i64 (t 3), .int .i64 (t 4), .int .i64 (t 5), .int .i64 (t 6), .int .i64 (t 7)] 85)).alloc (.cells #[.int .i64 0, .int .i64 0, .int .i64 0, .int .i64 0, .int .i64 0, .int .i64 0, .int .i64 0, .int .i64 0, .int .i64 0] 85)).cell? ⟨w.heap.size, 1, none⟩ = some (.int .i64 (t 0)) := b1.cell (i := 1) (by omega)
  have l1 := b1.lt
  have h00 := ht 0
  have hw1 : IntKind.i64.wrap (last - t 0) = last - t 0 := IntWalk.i64_in _ (by omega)
  have hw2 : IntKind.i64.wrap ((k : Int) - 1) = (k : Int) - 1 := IntWalk.i64_in _ (by omega)
  have hw3 : IntKind.i64.wrap (now - last) = now - last := IntWalk.i64_in _ (by omega)
  have hk1 : ((k : Int) - 1) = ((k - 1 : Nat) : Int) := by omega
  clear b1 b2 fA ht
  unfold pastV
  go_enter Try.func29, Try.ntmps29
  have hcase : (last != 0) = false ∨ ((last != 0) = true ∧ near < now - last) := by
    by_cases e : last = 0
    · left; simp [e]
    · right; exact ⟨by simpa using e, by omega⟩
  have HLOOP : Hid (∀ i : Nat, 0 < i → i < k → timesF t (last - t 0) k (i - 1) = upd (timesF t (last - t 0) k i) i (if t (i - 1) = 0 then 0 else t (i - 1) + (last - t 0))) := fun i h1 h2 => timesF_step t _ h1 h2
  have HTOP : Hid (timesF t (last - t 0) k (k - 1) = t) := timesF_top t _ k
  have HLOW : Hid (∀ i : Nat, 0 < i → timesF t (last - t 0) k i (i - 1) = t (i - 1)) := fun i h1 => by unfold timesF; rw [if_neg (by omega)]
  generalize hto : last - t 0 = took at *
  rcases hcase with hc | ⟨hc, hc2⟩
  all_goals
    go_wp2_with fail
    go_loopw [10, 11] (fun iv av wr => ∃ i : Nat, i < k ∧ iv = .int .i64 i ∧ Blk wr w.heap.size 9 (pastC last (timesF t took k i)) ∧ Blk wr (w.heap.size + 1) 9 (pastC 0 (fun _ => 0)) ∧ Fr NoF w wr) (fun iv _ _ => (intOf iv).toNat)
    case atStart => exact ⟨k - 1, by omega, by first | rfl | (rw [hk1]), by rw [HTOP.out]; exact HB1.out, HB2.out, HFA.out⟩
    case round =>
      obtain ⟨i, hi, rfl, hb1, hb2, hf⟩ := hrel
      have HF := Lib.hid hf
      have q1 := hb1.lt
      have q2 := hb2.lt
      by_cases h0 : i = 0
      · subst h0
        have y0 : wr.cell? ⟨w.heap.size, 0, none⟩ = some (.int .i64 last) := hb1.cell (i := 0) (by omega)
        have y1 : wr.cell? ⟨w.heap.size, 1, none⟩ = some (.int .i64 (timesF t took k 0 0)) := hb1.cell (i := 1) (by omega)
        have y2 : wr.cell? ⟨w.heap.size, 2, none⟩ = some (.int .i64 (timesF t took k 0 1)) := hb1.cell (i := 2) (by omega)
        have y3 : wr.cell? ⟨w.heap.size, 3, none⟩ = some (.int .i64 (timesF t took k 0 2)) := hb1.cell (i := 3) (by omega)
        have y4 : wr.cell? ⟨w.heap.size, 4, none⟩ = some (.int .i64 (timesF t took k 0 3)) := hb1.cell (i := 4) (by omega)
        have y5 : wr.cell? ⟨w.heap.size, 5, none⟩ = some (.int .i64 (timesF t took k 0 4)) := hb1.cell (i := 5) (by omega)
        have y6 : wr.cell? ⟨w.heap.size, 6, none⟩ = some (.int .i64 (timesF t took k 0 5)) := hb1.cell (i := 6) (by omega)
        have y7 : wr.cell? ⟨w.heap.size, 7, none⟩ = some (.int .i64 (timesF t took k 0 6)) := hb1.cell (i := 7) (by omega)
        have y8 : wr.cell? ⟨w.heap.size, 8, none⟩ = some (.int .i64 (timesF t took k 0 7)) := hb1.cell (i := 8) (by omega)
        have z0 : wr.cell? ⟨w.heap.size + 1, 0, none⟩ = some (.int .i64 0) := hb2.cell (i := 0) (by omega)
        have z1 : wr.cell? ⟨w.heap.size + 1, 1, none⟩ = some (.int .i64 0) := hb2.cell (i := 1) (by omega)
        have z2 : wr.cell? ⟨w.heap.size + 1, 2, none⟩ = some (.int .i64 0) := hb2.cell (i := 2) (by omega)
        have z3 : wr.cell? ⟨w.heap.size + 1, 3, none⟩ = some (.int .i64 0) := hb2.cell (i := 3) (by omega)
        have z4 : wr.cell? ⟨w.heap.size + 1, 4, none⟩ = some (.int .i64 0) := hb2.cell (i := 4) (by omega)
        have z5 : wr.cell? ⟨w.heap.size + 1, 5, none⟩ = some (.int .i64 0) := hb2.cell (i := 5) (by omega)
        have z6 : wr.cell? ⟨w.heap.size + 1, 6, none⟩ = some (.int .i64 0) := hb2.cell (i := 6) (by omega)
        have z7 : wr.cell? ⟨w.heap.size + 1, 7, none⟩ = some (.int .i64 0) := hb2.cell (i := 7) (by omega)
        have z8 : wr.cell? ⟨w.heap.size + 1, 8, none⟩ = some (.int .i64 0) := hb2.cell (i := 8) (by omega)
        have fp0 := hb1.frozen 0
        have fp1 := hb1.frozen 1
        have fz0 := hb2.frozen 0
        have fz1 := hb2.frozen 1
        have fz2 := hb2.frozen 2
        have fz3 := hb2.frozen 3
        have fz4 := hb2.frozen 4
        have fz5 := hb2.frozen 5
        have fz6 := hb2.frozen 6
        have fz7 := hb2.frozen 7
        have fz8 := hb2.frozen 8
        have HB2z := Lib.hid hb2
        have HB1z := Lib.hid hb1
        clear hb1 hb2 hf
        have HV : Hid (∀ j, upd (timesF t took k 0) 0 now (j + 1) = timesF t took k 0 (j + 1)) := fun j => upd_other _ _ (by omega)
        have HB8 : Blk ((wr.setCell ⟨w.heap.size, 1, none⟩ (.int .i64 now)).setCell ⟨w.heap.size, 0, none⟩ (.int .i64 now)) (w.heap.size + 1) 9 (pastC 0 (fun _ => 0)) := (HB2z.out.other (by show ¬ w.heap.size + 1 = w.heap.size; omega) _).other (by show ¬ w.heap.size + 1 = w.heap.size; omega) _
        have B1 := (HB1z.out.set 1 (.int .i64 now)).set 0 (.int .i64 now)
        have x0 : ((wr.setCell ⟨w.heap.size, 1, none⟩ (.int .i64 now)).setCell ⟨w.heap.size, 0, none⟩ (.int .i64 now)).cell? ⟨w.heap.size, 0, none⟩ = some (.int .i64 now) := B1.cell (i := 0) (by omega)
        have x1 : ((wr.setCell ⟨w.heap.size, 1, none⟩ (.int .i64 now)).setCell ⟨w.heap.size, 0, none⟩ (.int .i64 now)).cell? ⟨w.heap.size, 1, none⟩ = some (.int .i64 now) := B1.cell (i := 1) (by omega)
        have x2 : ((wr.setCell ⟨w.heap.size, 1, none⟩ (.int .i64 now)).setCell ⟨w.heap.size, 0, none⟩ (.int .i64 now)).cell? ⟨w.heap.size, 2, none⟩ = some (.int .i64 (timesF t took k 0 1)) := B1.cell (i := 2) (by omega)
        have x3 : ((wr.setCell ⟨w.heap.size, 1, none⟩ (.int .i64 now)).setCell ⟨w.heap.size, 0, none⟩ (.int .i64 now)).cell? ⟨w.heap.size, 3, none⟩ = some (.int .i64 (timesF t took k 0 2)) := B1.cell (i := 3) (by omega)
        have x4 : ((wr.setCell ⟨w.heap.size, 1, none⟩ (.int .i64 now)).setCell ⟨w.heap.size, 0, none⟩ (.int .i64 now)).cell? ⟨w.heap.size, 4, none⟩ = some (.int .i64 (timesF t took k 0 3)) := B1.cell (i := 4) (by omega)
        have x5 : ((wr.setCell ⟨w.heap.size, 1, none⟩ (.int .i64 now)).setCell ⟨w.heap.size, 0, none⟩ (.int .i64 now)).cell? ⟨w.heap.size, 5, none⟩ = some (.int .i64 (timesF t took k 0 4)) := B1.cell (i := 5) (by omega)
        have x6 : ((wr.setCell ⟨w.heap.size, 1, none⟩ (.int .i64 now)).setCell ⟨w.heap.size, 0, none⟩ (.int .i64 now)).cell? ⟨w.heap.size, 6, none⟩ = some (.int .i64 (timesF t took k 0 5)) := B1.cell (i := 6) (by omega)
        have x7 : ((wr.setCell ⟨w.heap.size, 1, none⟩ (.int .i64 now)).setCell ⟨w.heap.size, 0, none⟩ (.int .i64 now)).cell? ⟨w.heap.size, 7, none⟩ = some (.int .i64 (timesF t took k 0 6)) := B1.cell (i := 7) (by omega)
        have x8 : ((wr.setCell ⟨w.heap.size, 1, none⟩ (.int .i64 now)).setCell ⟨w.heap.size, 0, none⟩ (.int .i64 now)).cell? ⟨w.heap.size, 8, none⟩ = some (.int .i64 (timesF t took k 0 7)) := B1.cell (i := 8) (by omega)
        have u0 : ((wr.setCell ⟨w.heap.size, 1, none⟩ (.int .i64 now)).setCell ⟨w.heap.size, 0, none⟩ (.int .i64 now)).cell? ⟨w.heap.size + 1, 0, none⟩ = some (.int .i64 0) := HB8.cell (i := 0) (by omega)
        have u1 : ((wr.setCell ⟨w.heap.size, 1, none⟩ (.int .i64 now)).setCell ⟨w.heap.size, 0, none⟩ (.int .i64 now)).cell? ⟨w.heap.size + 1, 1, none⟩ = some (.int .i64 0) := HB8.cell (i := 1) (by omega)
        have u2 : ((wr.setCell ⟨w.heap.size, 1, none⟩ (.int .i64 now)).setCell ⟨w.heap.size, 0, none⟩ (.int .i64 now)).cell? ⟨w.heap.size + 1, 2, none⟩ = some (.int .i64 0) := HB8.cell (i := 2) (by omega)
        have u3 : ((wr.setCell ⟨w.heap.size, 1, none⟩ (.int .i64 now)).setCell ⟨w.heap.size, 0, none⟩ (.int .i64 now)).cell? ⟨w.heap.size + 1, 3, none⟩ = some (.int .i64 0) := HB8.cell (i := 3) (by omega)
        have u4 : ((wr.setCell ⟨w.heap.size, 1, none⟩ (.int .i64 now)).setCell ⟨w.heap.size, 0, none⟩ (.int .i64 now)).cell? ⟨w.heap.size + 1, 4, none⟩ = some (.int .i64 0) := HB8.cell (i := 4) (by omega)
        have u5 : ((wr.setCell ⟨w.heap.size, 1, none⟩ (.int .i64 now)).setCell ⟨w.heap.size, 0, none⟩ (.int .i64 now)).cell? ⟨w.heap.size + 1, 5, none⟩ = some (.int .i64 0) := HB8.cell (i := 5) (by omega)
        have u6 : ((wr.setCell ⟨w.heap.size, 1, none⟩ (.int .i64 now)).setCell ⟨w.heap.size, 0, none⟩ (.int .i64 now)).cell? ⟨w.heap.size + 1, 6, none⟩ = some (.int .i64 0) := HB8.cell (i := 6) (by omega)
        have u7 : ((wr.setCell ⟨w.heap.size, 1, none⟩ (.int .i64 now)).setCell ⟨w.heap.size, 0, none⟩ (.int .i64 now)).cell? ⟨w.heap.size + 1, 7, none⟩ = some (.int .i64 0) := HB8.cell (i := 7) (by omega)
        have u8 : ((wr.setCell ⟨w.heap.size, 1, none⟩ (.int .i64 now)).setCell ⟨w.heap.size, 0, none⟩ (.int .i64 now)).cell? ⟨w.heap.size + 1, 8, none⟩ = some (.int .i64 0) := HB8.cell (i := 8) (by omega)
        have fu0 := HB8.frozen 0
        have fu1 := HB8.frozen 1
        have fu2 := HB8.frozen 2
        have fu3 := HB8.frozen 3
        have fu4 := HB8.frozen 4
        have fu5 := HB8.frozen 5
        have fu6 := HB8.frozen 6
        have fu7 := HB8.frozen 7
        have fu8 := HB8.frozen 8
        have v1 := B1.lt
        have v2 := HB8.lt
        have HFW : Hid (Fr NoF w ((wr.setCell ⟨w.heap.size, 1, none⟩ (.int .i64 now)).setCell ⟨w.heap.size, 0, none⟩ (.int .i64 now))) := (by repeat (first | exact HF.out | (refine Fr.setCell ?_ (.inr (by first | exact Nat.le_refl _ | exact Nat.le_succ _)) _)))
        have HBW := Lib.hid HB8
        clear HB8 B1
        go_upto_region 14 with fail
        generalize ((wr.setCell ⟨w.heap.size, 1, none⟩ (.int .i64 now)).setCell ⟨w.heap.size, 0, none⟩ (.int .i64 now)) = wx at *
        clear y0 y1 y2 y3 y4 y5 y6 y7 y8 z0 z1 z2 z3 z4 z5 z6 z7 z8 fz0 fz1 fz2 fz3 fz4 fz5 fz6 fz7 fz8
        have RB := Lib.hid (((((((((HBW.out.set 0 (.int .i64 (now))).set 1 (.int .i64 (now))).set 2 (.int .i64 (timesF t took k 0 1))).set 3 (.int .i64 (timesF t took k 0 2))).set 4 (.int .i64 (timesF t took k 0 3))).set 5 (.int .i64 (timesF t took k 0 4))).set 6 (.int .i64 (timesF t took k 0 5))).set 7 (.int .i64 (timesF t took k 0 6))).set 8 (.int .i64 (timesF t took k 0 7)))
        have FRB := Lib.hid (Fr.setCell (Fr.setCell (Fr.setCell (Fr.setCell (Fr.setCell (Fr.setCell (Fr.setCell (Fr.setCell (Fr.setCell HFW.out (p := ⟨w.heap.size + 1, 0, none⟩) (.inr (Nat.le_succ _)) (.int .i64 (now))) (p := ⟨w.heap.size + 1, 1, none⟩) (.inr (Nat.le_succ _)) (.int .i64 (now))) (p := ⟨w.heap.size + 1, 2, none⟩) (.inr (Nat.le_succ _)) (.int .i64 (timesF t took k 0 1))) (p := ⟨w.heap.size + 1, 3, none⟩) (.inr (Nat.le_succ _)) (.int .i64 (timesF t took k 0 2))) (p := ⟨w.heap.size + 1, 4, none⟩) (.inr (Nat.le_succ _)) (.int .i64 (timesF t took k 0 3))) (p := ⟨w.heap.size + 1, 5, none⟩) (.inr (Nat.le_succ _)) (.int .i64 (timesF t took k 0 4))) (p := ⟨w.heap.size + 1, 6, none⟩) (.inr (Nat.le_succ _)) (.int .i64 (timesF t took k 0 5))) (p := ⟨w.heap.size + 1, 7, none⟩) (.inr (Nat.le_succ _)) (.int .i64 (timesF t took k 0 6))) (p := ⟨w.heap.size + 1, 8, none⟩) (.inr (Nat.le_succ _)) (.int .i64 (timesF t took k 0 7)))
        go_wp2
        (try simp only [Exit.inBlock, Exit.then])
        refine bodyPost_ret (results_blk Try.results29 _ _ RB.out rfl Try.underlying85 rfl (by kernel_rfl)) (by rfl) ?_
        have FRB := FRB.out
        generalize timesF t took k 0 = T at FRB ⊢
        exact ⟨rfl, FRB⟩
      · obtain ⟨m, rfl⟩ : ∃ m, i = m + 1 := ⟨i - 1, by omega⟩
        have hstep := HLOOP.out (m + 1) (by omega) hi
        have hlow := HLOW.out (m + 1) (by omega)
        rw [Nat.add_sub_cancel] at hstep hlow
        have y1 : wr.cell? ⟨w.heap.size, 1 + m, none⟩ = some (.int .i64 (t m)) := by
          have h := hb1.cell (i := 1 + m) (by omega)
          rw [show pastC last (timesF t took k (m + 1)) (1 + m) = .int .i64 (timesF t took k (m + 1) m) from by unfold pastC; rw [if_neg (by omega), show 1 + m - 1 = m from by omega], hlow] at h
          exact h
        have y2 := hb1.cell (i := 1 + (m + 1)) (by omega)
        have fp2 := hb1.frozen (1 + (m + 1))
        have hm := HT.out m
        have hwi : IntKind.i64.wrap (((m + 1 : Nat) : Int) - 1) = (m : Int) := by rw [show ((m + 1 : Nat) : Int) - 1 = (m : Int) from by omega]; exact IntWalk.i64_in _ (by omega)
        have hip : 0 < ((m + 1 : Nat) : Int) := by omega
        have HS1 := Lib.hid hstep
        have HB1' := Lib.hid hb1
        have HB2' := Lib.hid hb2
        clear hb1 hb2 hf hstep
        by_cases hz : t m = 0
        · rw [hz] at y1
          have h5 : Blk (wr.setCell ⟨w.heap.size, 1 + (m + 1), none⟩ (.int .i64 0)) w.heap.size 9 (pastC last (timesF t took k m)) := by
            rw [HS1.out, if_pos hz, ← pastC_set]
            exact HB1'.out.set _ _
          have H5 := Lib.hid h5
          clear h5 hz
          go_wp2
          go_roundw
          case rel => exact ⟨m, by omega, by go_num, H5.out, HB2'.out.other (by show ¬ w.heap.size + 1 = w.heap.size; omega) _, (by repeat (first | exact HF.out | (refine Fr.setCell ?_ (.inr (by first | exact Nat.le_refl _ | exact Nat.le_succ _)) _)))⟩
          case measure => first | (simp [intOf]; done) | (simp [intOf]; omega)
        · have gz : (t m != 0) = true := by simpa using hz
          have h5 : Blk ((wr.setCell ⟨w.heap.size, 1 + (m + 1), none⟩ (.int .i64 0)).setCell ⟨w.heap.size, 1 + (m + 1), none⟩ (.int .i64 (t m + took))) w.heap.size 9 (pastC last (timesF t took k m)) := by
            rw [HS1.out, if_neg hz, ← pastC_set]
            refine ((HB1'.out.set _ _).set _ _).congr (fun j _ => ?_)
            unfold upd
            split
            · rfl
            · rfl
          have H5 := Lib.hid h5
          clear h5 hz
          go_wp2
          go_roundw
          case rel => exact ⟨m, by omega, by go_num, H5.out, (HB2'.out.other (by show ¬ w.heap.size + 1 = w.heap.size; omega) _).other (by show ¬ w.heap.size + 1 = w.heap.size; omega) _, (by repeat (first | exact HF.out | (refine Fr.setCell ?_ (.inr (by first | exact Nat.le_refl _ | exact Nat.le_succ _)) _)))⟩
          case measure => first | (simp [intOf]; done) | (simp [intOf]; omega)
end
end Go.Proofs.Ytbnckhkamebibaa
namespace Go.Proofs.Ytbnckhkamebibaa
open Go.RowKit Go.Maps
set_option linter.unusedVariables false

/-- Which things there are, where K tells the keys. -/
def memK (K : Nat → Option (Int × Int)) : Th → Prop := fun t => ∃ x : Nat, t.x = x ∧ K x = some (t.a, t.b)
def updK (K : Nat → Option (Int × Int)) (x : Nat) (y : Option (Int × Int)) : Nat → Option (Int × Int) := fun z => if z = x then y else K z
theorem updK_same (K : Nat → Option (Int × Int)) (x : Nat) (y : Option (Int × Int)) : updK K x y x = y := if_pos rfl
theorem updK_other (K : Nat → Option (Int × Int)) {x z : Nat} (y : Option (Int × Int)) (h : ¬ z = x) : updK K x y z = K z := if_neg h
theorem updK_none {K : Nat → Option (Int × Int)} {x : Nat} (h : K x = none) : updK K x none = K := by
  funext z; unfold updK; split
  · subst_vars; exact h.symm
  · rfl
def QK (w : World) (qb : Nat) (K : Nat → Option (Int × Int)) (n : Nat) (F : Nat → Prop) : Prop := QS w qb (memK K) n F
/-- One less, one more; where it was there.  -/
def lessN (n : Nat) (o : Bool) : Nat := if o then n - 1 else n
def moreN (n : Nat) (o : Bool) : Nat := if o then n else n + 1
def okN (x : Nat) : Prop := x < 4294967296
theorem i64_in {z : Int} (h : -9223372036854775808 ≤ z ∧ z ≤ 9223372036854775807) : i64 z := by
  have e1 : IntKind.i64.min = -9223372036854775808 := rfl
  have e2 : IntKind.i64.max = 9223372036854775807 := rfl
  have : IntKind.i64.min ≤ z ∧ z ≤ IntKind.i64.max := by rw [e1, e2]; exact h
  unfold i64
  simpa [Lit.wf] using this
theorem okN_i64 {x : Nat} (h : okN x) : i64 (x : Int) := by
  have h : x < 4294967296 := h
  exact i64_in ⟨by omega, by omega⟩
section
variable {w w' : World} {qb n : Nat} {F : Nat → Prop} {K : Nat → Option (Int × Int)} {M : Th → Prop}
theorem QK.fr (h : QK w qb K n F) {G : Nat → Prop} (f : Fr G w w') (hG : ∀ i, F i → ¬ G i) : QK w' qb K n F := QS.fr h f hG
theorem QK.fr0 (h : QK w qb K n F) (f : Fr NoF w w') : QK w' qb K n F := QS.fr0 h f
theorem QK.lt (h : QK w qb K n F) : ∀ i, F i → i < w.heap.size := QS.lt h
theorem QK.self (h : QK w qb K n F) : F qb := QS.self h
theorem QK.zero (h : QK w qb K 0 F) (x : Nat) : K x = none := by
  obtain ⟨a, hr, hh, hM⟩ := h
  cases e : K x with
  | none => rfl
  | some p => obtain ⟨k, hk, _⟩ := (hM ⟨x, p.1, p.2⟩).1 ⟨x, rfl, e⟩; omega
theorem QK.pos (h : QK w qb K n F) {x : Nat} (hx : (K x).isSome = true) : 0 < n := by
  cases n with
  | zero => rw [h.zero x] at hx; cases hx
  | succ n => omega
theorem qk_new (w : World) : Calls Try.prog 13 #[] w fun e w' => e = .returned (.pointer (some ⟨w.heap.size, 0, none⟩)) ∧ QK w' w.heap.size (fun _ => none) 0 (fun i => i = w.heap.size) ∧ Fr NoF w w' :=
  (qu_new w).mono fun e w' ⟨he, h, f⟩ => ⟨he, h.congr (fun t => ⟨fun q => q.elim, fun ⟨x, _, q⟩ => by cases q⟩), f⟩
theorem qk_len (h : QK w qb K n F) : Calls Try.prog 38 #[.pointer (some ⟨qb, 0, none⟩)] w fun e w' => e = .returned (.int .i64 (n : Nat)) ∧ w = w' := qu_len h
theorem memK_some {x : Nat} {a b : Int} (h : K x = some (a, b)) : memK K ⟨x, a, b⟩ := ⟨x, rfl, h⟩
theorem memK_no {x : Nat} (h : K x = none) : ∀ u, memK K u → ¬ u.x = (x : Int) := by
  rintro u ⟨z, hz, hk⟩ e
  rw [e] at hz
  obtain rfl : x = z := by omega
  rw [h] at hk
  cases hk
theorem qk_put (h : QK w qb K n F) {x : Nat} {a b : Int} (hx : okN x) (ha : i64 a) (hb : i64 b) (hn : n < 900000) : Calls Try.prog 49 #[.pointer (some ⟨qb, 0, none⟩), .int .i64 x, .agg #[.int .i64 a, .int .i64 b]] w fun e w' => e = .returned (.tuple #[]) ∧ ∃ F', QK w' qb (updK K x (some (a, b))) (moreN n (K x).isSome) F' ∧ Fr F w w' ∧ ∀ i, F' i → F i ∨ w.heap.size ≤ i := by
  have hok : thOk ⟨x, a, b⟩ := ⟨okN_i64 hx, ha, hb⟩
  cases e : K x with
  | none =>
    refine (qu_put_new h hok hn (memK_no e)).mono ?_
    rintro e' w' ⟨he, F', hq, hf, hF⟩
    refine ⟨he, F', hq.congr (fun t => ⟨?_, ?_⟩), hf, hF⟩
    · rintro (rfl | ⟨z, hz, hk⟩)
      · exact ⟨x, rfl, updK_same _ _ _⟩
      · exact ⟨z, hz, by rw [updK_other _ _ (fun q => by subst q; rw [e] at hk; cases hk)]; exact hk⟩
    · rintro ⟨z, hz, hk⟩
      by_cases q : z = x
      · subst q
        rw [updK_same] at hk
        injection hk with hk
        injection hk with h1 h2
        left
        cases t; simp_all
      · rw [updK_other _ _ q] at hk
        exact .inr ⟨z, hz, hk⟩
  | some p =>
    refine (qu_put_old h hok ⟨⟨x, p.1, p.2⟩, ⟨x, rfl, e⟩, rfl⟩).mono ?_
    rintro e' w' ⟨he, hq, hf⟩
    refine ⟨he, F, hq.congr (fun t => ⟨?_, ?_⟩), hf, fun i q => .inl q⟩
    · rintro (rfl | ⟨⟨z, hz, hk⟩, hne⟩)
      · exact ⟨x, rfl, updK_same _ _ _⟩
      · exact ⟨z, hz, by rw [updK_other _ _ (fun q => by subst q; exact hne hz)]; exact hk⟩
    · rintro ⟨z, hz, hk⟩
      by_cases q : z = x
      · subst q
        rw [updK_same] at hk
        injection hk with hk
        injection hk with h1 h2
        left
        cases t; simp_all
      · rw [updK_other _ _ q] at hk
        exact .inr ⟨⟨z, hz, hk⟩, fun q' => q (Int.ofNat.inj (hz.symm.trans q'))⟩
theorem qk_drop (h : QK w qb K n F) {x : Nat} (hx : okN x) : Calls Try.prog 28 #[.pointer (some ⟨qb, 0, none⟩), .int .i64 x] w fun e w' => e = .returned (.bool (K x).isSome) ∧ QK w' qb (updK K x none) (lessN n (K x).isSome) F ∧ Fr F w w' := by
  cases e : K x with
  | none =>
    refine (qu_drop_no h (okN_i64 hx) (memK_no e)).mono ?_
    rintro e' w' ⟨he, rfl⟩
    exact ⟨he, by rw [updK_none e]; exact h, Fr.refl _ _⟩
  | some p =>
    obtain ⟨m, rfl⟩ : ∃ m, n = m + 1 := ⟨n - 1, by have := h.pos (x := x) (by rw [e]; rfl); omega⟩
    refine (qu_drop_yes h ⟨⟨x, p.1, p.2⟩, ⟨x, rfl, e⟩, rfl⟩).mono ?_
    rintro e' w' ⟨he, hq, hf⟩
    refine ⟨he, hq.congr (fun t => ⟨?_, ?_⟩), hf⟩
    · rintro ⟨⟨z, hz, hk⟩, hne⟩
      exact ⟨z, hz, by rw [updK_other _ _ (fun q => by subst q; exact hne hz)]; exact hk⟩
    · rintro ⟨z, hz, hk⟩
      by_cases q : z = x
      · subst q
        rw [updK_same] at hk
        cases hk
      · rw [updK_other _ _ q] at hk
        exact ⟨⟨z, hz, hk⟩, fun q' => q (Int.ofNat.inj (hz.symm.trans q'))⟩
def keyOf (o : Option (Int × Int)) : Value := .agg #[.int .i64 (o.getD (0, 0)).1, .int .i64 (o.getD (0, 0)).2]
set_option maxHeartbeats 1000000 in
theorem qk_of_yes (h : QS w qb M n F) {t : Th} (ht : M t) : Calls Try.prog 48 #[.pointer (some ⟨qb, 0, none⟩), .int .i64 t.x] w fun e w' => e = .returned (.tuple #[.agg #[.int .i64 t.a, .int .i64 t.b], .bool true]) ∧ Fr NoF w w' := by
  obtain ⟨a, ⟨lv, mo, g, h, hF⟩, hh, hM⟩ := h
  obtain ⟨k, hk, rfl⟩ := (hM t).1 ht
  have fA : Fr NoF w (w.alloc (.cells #[.int .i64 0, .int .i64 0] 89)) := (Fr.refl NoF w).alloc _
  have hA := h.fr0 fA
  have HFI := Lib.hid (qc_find_yes hA hk)
  have c0 := hA.c0
  have lb := hA.hd.lt
  have hsm := h.sm
  obtain ⟨gb, cap, rfl, g1, g2, g3, g4, i0, i1, i2⟩ := hA.el hk
  have hgl : ¬ gb = w.heap.size := by
    obtain ⟨gb', cap', e, _, _, q, _⟩ := h.el hk
    simp only [Value.slice.injEq, Option.some.injEq, Addr.mk.injEq] at e
    obtain ⟨⟨rfl, _⟩, _, _⟩ := e
    omega
  generalize (a k).x = tx at *
  generalize (a k).a = ta at *
  generalize (a k).b = tb at *
  clear h hA hF hh hM ht fA
  go_enter Try.func48, Try.ntmps48
  go_wp2_with fail
  refine HFI.out.mono ?_
  rintro e w1 ⟨rfl, rfl⟩
  go_wp2
  go_returns
  exact ⟨rfl, (Fr.refl NoF w).alloc _⟩
theorem qk_of_no (h : QS w qb M n F) {x : Int} (hx : i64 x) (hne : ∀ u, M u → ¬ u.x = x) : Calls Try.prog 48 #[.pointer (some ⟨qb, 0, none⟩), .int .i64 x] w fun e w' => e = .returned (.tuple #[.agg #[.int .i64 0, .int .i64 0], .bool false]) ∧ Fr NoF w w' := by
  obtain ⟨a, ⟨lv, mo, g, h, hF⟩, hh, hM⟩ := h
  have fA : Fr NoF w (w.alloc (.cells #[.int .i64 0, .int .i64 0] 89)) := (Fr.refl NoF w).alloc _
  have HC := Lib.hid (qc_find_no (h.fr0 fA) hx (fun k hk => hne _ ((hM _).2 ⟨k, hk, rfl⟩)))
  clear h hF hh hM hne hx fA
  go_enter Try.func48, Try.ntmps48
  go_wp2_with fail
  refine HC.out.mono ?_
  rintro e w1 ⟨rfl, rfl⟩
  go_wp2
  go_returns
  exact ⟨rfl, (Fr.refl NoF w).alloc _⟩
theorem qk_of (h : QK w qb K n F) {x : Nat} (hx : okN x) : Calls Try.prog 48 #[.pointer (some ⟨qb, 0, none⟩), .int .i64 x] w fun e w' => e = .returned (.tuple #[.agg #[.int .i64 ((K x).getD (0, 0)).1, .int .i64 ((K x).getD (0, 0)).2], .bool (K x).isSome]) ∧ Fr NoF w w' := by
  cases e : K x with
  | none => exact qk_of_no h (okN_i64 hx) (memK_no e)
  | some p => exact qk_of_yes h (t := ⟨x, p.1, p.2⟩) ⟨x, rfl, e⟩
/-- The least one. -/
def LeastK (K : Nat → Option (Int × Int)) (x : Nat) : Prop := ∃ a b, K x = some (a, b) ∧ ∀ y c d, K y = some (c, d) → a < c ∨ (a = c ∧ (b < d ∨ (b = d ∧ x ≤ y)))
theorem qk_least_no (h : QK w qb K 0 F) : Calls Try.prog 51 #[.pointer (some ⟨qb, 0, none⟩)] w fun e w' => e = .returned (.tuple #[.int .i64 0, .bool false]) ∧ w = w' := qu_least_no h
theorem qk_least (h : QK w qb K n F) (hn : 0 < n) : ∃ x : Nat, LeastK K x ∧ Hid (∀ W, Fr NoF w W → Calls Try.prog 51 #[.pointer (some ⟨qb, 0, none⟩)] W fun e w' => e = .returned (.tuple #[.int .i64 x, .bool true]) ∧ W = w') := by
  obtain ⟨t, ⟨⟨x, hx, hk⟩, hl⟩, hc⟩ := qu_least_yes h hn
  rw [hx] at hc
  refine ⟨x, ⟨t.a, t.b, hk, fun y c d hy => ?_⟩, hc⟩
  have h1 := hl ⟨y, c, d⟩ ⟨y, rfl, hy⟩
  rw [ltT_not] at h1
  simp only [hx] at h1
  omega
end
end Go.Proofs.Ytbnckhkamebibaa
namespace Go.Proofs.Ytbnckhkamebibaa
open Go.RowKit Go.Maps
set_option linter.unusedVariables false

/-- The evictable frames' ranks R, parted by what is far. -/
def farK (R : Nat → Option (Int × Int)) (Fa : Nat → Bool) : Nat → Option (Int × Int) := fun x => if Fa x then R x else none
def freshK (R : Nat → Option (Int × Int)) (Fa : Nat → Bool) : Nat → Option (Int × Int) := fun x => if Fa x then none else R x
def turnK (R : Nat → Option (Int × Int)) (Fa : Nat → Bool) : Nat → Option (Int × Int) := fun x => (freshK R Fa x).map fun p => (p.2, 0)
def updB1 (Fa : Nat → Bool) (x : Nat) (y : Bool) : Nat → Bool := fun z => if z = x then y else Fa z
/-- .. in memory: three Queues. -/
structure CAt (w : World) (lb : Nat) (R : Nat → Option (Int × Int)) (Fa : Nat → Bool) (q1 q2 q3 nf nr : Nat) (F1 F2 F3 : Nat → Prop) : Prop where
  p6 : w.cell? ⟨lb, 6, none⟩ = some (.pointer (some ⟨q1, 0, none⟩))
  p7 : w.cell? ⟨lb, 7, none⟩ = some (.pointer (some ⟨q2, 0, none⟩))
  p8 : w.cell? ⟨lb, 8, none⟩ = some (.pointer (some ⟨q3, 0, none⟩))
  lt : lb < w.heap.size
  h1 : QK w q1 (farK R Fa) nf F1
  h2 : QK w q2 (freshK R Fa) nr F2
  h3 : QK w q3 (turnK R Fa) nr F3
  d12 : ∀ i, F1 i → ¬ F2 i
  d13 : ∀ i, F1 i → ¬ F3 i
  d23 : ∀ i, F2 i → ¬ F3 i
  n1 : ¬ F1 lb
  n2 : ¬ F2 lb
  n3 : ¬ F3 lb
  ok : ∀ x a b, R x = some (a, b) → i64 a ∧ i64 b ∧ okN x
/-- .. t of them, the Queues' blocks F. -/
def CC (w : World) (lb : Nat) (R : Nat → Option (Int × Int)) (Fa : Nat → Bool) (t : Nat) (F : Nat → Prop) : Prop :=
  ∃ q1 q2 q3 nf nr F1 F2 F3, CAt w lb R Fa q1 q2 q3 nf nr F1 F2 F3 ∧ nf + nr = t ∧ ∀ i, F i ↔ F1 i ∨ F2 i ∨ F3 i
section
variable {w w' : World} {lb t : Nat} {R : Nat → Option (Int × Int)} {Fa : Nat → Bool} {q1 q2 q3 nf nr : Nat} {F F1 F2 F3 : Nat → Prop}
theorem CAt.fr (h : CAt w lb R Fa q1 q2 q3 nf nr F1 F2 F3) {G : Nat → Prop} (f : Fr G w w') (g1 : ∀ i, F1 i → ¬ G i) (g2 : ∀ i, F2 i → ¬ G i) (g3 : ∀ i, F3 i → ¬ G i) (gl : ¬ G lb) : CAt w' lb R Fa q1 q2 q3 nf nr F1 F2 F3 :=
  ⟨by rw [f.cell (p := ⟨lb, 6, none⟩) h.lt gl]; exact h.p6, by rw [f.cell (p := ⟨lb, 7, none⟩) h.lt gl]; exact h.p7, by rw [f.cell (p := ⟨lb, 8, none⟩) h.lt gl]; exact h.p8, Nat.lt_of_lt_of_le h.lt f.size, h.h1.fr f g1, h.h2.fr f g2, h.h3.fr f g3, h.d12, h.d13, h.d23, h.n1, h.n2, h.n3, h.ok⟩
theorem CAt.fr0 (h : CAt w lb R Fa q1 q2 q3 nf nr F1 F2 F3) (f : Fr NoF w w') : CAt w' lb R Fa q1 q2 q3 nf nr F1 F2 F3 := h.fr f (fun _ _ q => q) (fun _ _ q => q) (fun _ _ q => q) (fun q => q)
theorem CC.fr (h : CC w lb R Fa t F) {G : Nat → Prop} (f : Fr G w w') (g : ∀ i, F i → ¬ G i) (gl : ¬ G lb) : CC w' lb R Fa t F := by
  obtain ⟨q1, q2, q3, nf, nr, F1, F2, F3, h, ht, hF⟩ := h
  exact ⟨q1, q2, q3, nf, nr, F1, F2, F3, h.fr f (fun i q => g i ((hF i).2 (.inl q))) (fun i q => g i ((hF i).2 (.inr (.inl q)))) (fun i q => g i ((hF i).2 (.inr (.inr q)))) gl, ht, hF⟩
theorem CC.fr0 (h : CC w lb R Fa t F) (f : Fr NoF w w') : CC w' lb R Fa t F := h.fr f (fun _ _ q => q) (fun q => q)
theorem CC.lt (h : CC w lb R Fa t F) : ∀ i, F i → i < w.heap.size := by
  obtain ⟨q1, q2, q3, nf, nr, F1, F2, F3, h, ht, hF⟩ := h
  intro i q
  rcases (hF i).1 q with q | q | q
  · exact h.h1.lt i q
  · exact h.h2.lt i q
  · exact h.h3.lt i q
theorem CC.notl (h : CC w lb R Fa t F) : ¬ F lb := by
  obtain ⟨q1, q2, q3, nf, nr, F1, F2, F3, h, ht, hF⟩ := h
  intro q
  rcases (hF lb).1 q with q | q | q
  · exact h.n1 q
  · exact h.n2 q
  · exact h.n3 q
theorem parts_has (R : Nat → Option (Int × Int)) (Fa : Nat → Bool) (x : Nat) : ((farK R Fa x).isSome || (freshK R Fa x).isSome) = (R x).isSome := by
  unfold farK freshK
  cases Fa x <;> simp
set_option maxHeartbeats 1000000 in
theorem cc_has (h : CC w lb R Fa t F) {x : Nat} (hx : okN x) : Calls Try.prog 30 #[.pointer (some ⟨lb, 6, none⟩), .int .i64 x] w fun e w' => e = .returned (.bool (R x).isSome) ∧ Fr NoF w w' := by
  obtain ⟨q1, q2, q3, nf, nr, F1, F2, F3, h, ht, hF⟩ := h
  have HP := Lib.hid (parts_has R Fa x)
  have HC := Lib.hid h
  have H1 : Hid (Calls Try.prog 48 #[.pointer (some ⟨q1, 0, none⟩), .int .i64 x] w fun e w' => e = .returned (.tuple #[.agg #[.int .i64 ((farK R Fa x).getD (0, 0)).1, .int .i64 ((farK R Fa x).getD (0, 0)).2], .bool (farK R Fa x).isSome]) ∧ Fr NoF w w') := qk_of h.h1 hx
  have H2 : Hid (∀ W, Fr NoF w W → Calls Try.prog 48 #[.pointer (some ⟨q2, 0, none⟩), .int .i64 x] W fun e w' => e = .returned (.tuple #[.agg #[.int .i64 ((freshK R Fa x).getD (0, 0)).1, .int .i64 ((freshK R Fa x).getD (0, 0)).2], .bool (freshK R Fa x).isSome]) ∧ Fr NoF W w') := fun W f => qk_of (h.h2.fr0 f) hx
  have p6 := h.p6
  have lt := h.lt
  clear h hF ht
  rw [← HP.out]
  clear HP
  generalize ((farK R Fa x).getD (0, 0)).1 = a1 at *
  generalize ((farK R Fa x).getD (0, 0)).2 = a2 at *
  generalize ((freshK R Fa x).getD (0, 0)).1 = b1 at *
  generalize ((freshK R Fa x).getD (0, 0)).2 = b2 at *
  generalize (farK R Fa x).isSome = o1 at *
  generalize (freshK R Fa x).isSome = o2 at *
  go_enter Try.func30, Try.ntmps30
  go_wp2_with fail
  refine H1.out.mono ?_
  rintro e w1 ⟨rfl, f1⟩
  have p7 := (HC.out.fr f1 (fun _ _ q => q) (fun _ _ q => q) (fun _ _ q => q) (fun q => q)).p7
  have lt1 := (HC.out.fr f1 (fun _ _ q => q) (fun _ _ q => q) (fun _ _ q => q) (fun q => q)).lt
  have HF1 := Lib.hid f1
  clear p6 lt f1
  cases o1 <;>
  (go_wp2_with fail
   refine (H2.out _ (by first | exact HF1.out.alloc _ | exact (HF1.out.alloc _).setCell (.inr HF1.out.size) _)).mono ?_
   rintro e w2 ⟨rfl, f2⟩
   have HF2 := Lib.hid f2
   clear f2
   go_wp2
   go_returns
   exact ⟨rfl, by first | exact ((HF1.out.alloc _).trans HF2.out (fun _ q => q.elim)).alloc _ | exact (((HF1.out.alloc _).setCell (.inr HF1.out.size) _).trans HF2.out (fun _ q => q.elim)).alloc _⟩)
theorem cc_len (h : CC w lb R Fa t F) (ht : t < 900000) : Calls Try.prog 40 #[.pointer (some ⟨lb, 6, none⟩)] w fun e w' => e = .returned (.int .i64 (t : Nat)) ∧ Fr NoF w w' := by
  obtain ⟨q1, q2, q3, nf, nr, F1, F2, F3, h, rfl, hF⟩ := h
  have H1 : Hid (∀ W, Fr NoF w W → Calls Try.prog 38 #[.pointer (some ⟨q1, 0, none⟩)] W fun e w' => e = .returned (.int .i64 (nf : Nat)) ∧ W = w') := fun W f => qk_len (h.h1.fr0 f)
  have H2 : Hid (∀ W, Fr NoF w W → Calls Try.prog 38 #[.pointer (some ⟨q2, 0, none⟩)] W fun e w' => e = .returned (.int .i64 (nr : Nat)) ∧ W = w') := fun W f => qk_len (h.h2.fr0 f)
  have p6 := h.p6
  have p7 := h.p7
  have lt := h.lt
  have hw : IntKind.i64.wrap ((nf : Int) + nr) = ((nf + nr : Nat) : Int) := by rw [show ((nf : Int) + nr) = ((nf + nr : Nat) : Int) from by omega]; exact IntWalk.i64_in _ (by omega)
  clear h hF ht
  go_enter Try.func40, Try.ntmps40
  go_wp2_with fail
  go_quiet ((go_at_call 38; first | (with_reducible exact qs (H1.out _ (by first | exact Fr.refl _ _ | exact (Fr.refl NoF w).drew | exact (Fr.refl NoF w).drewN _))) | (with_reducible exact qs (H2.out _ (by first | exact Fr.refl _ _ | exact (Fr.refl NoF w).drew | exact (Fr.refl NoF w).drewN _)))))
  go_wp2
  go_returns
  exact ⟨rfl, by first | exact Fr.refl _ _ | exact (Fr.refl NoF w).drewN _⟩
theorem updB1_same (Fa : Nat → Bool) (x : Nat) (y : Bool) : updB1 Fa x y x = y := if_pos rfl
theorem updB1_other (Fa : Nat → Bool) {x z : Nat} (y : Bool) (h : ¬ z = x) : updB1 Fa x y z = Fa z := if_neg h
theorem farK_drop (R : Nat → Option (Int × Int)) (Fa : Nat → Bool) (x : Nat) : updK (farK R Fa) x none = farK (updK R x none) Fa := by
  funext z; unfold updK farK
  by_cases e : z = x
  · simp [e]
  · simp [e]
theorem freshK_drop (R : Nat → Option (Int × Int)) (Fa : Nat → Bool) (x : Nat) : updK (freshK R Fa) x none = freshK (updK R x none) Fa := by
  funext z; unfold updK freshK
  by_cases e : z = x
  · simp [e]
  · simp [e]
theorem turnK_drop (R : Nat → Option (Int × Int)) (Fa : Nat → Bool) (x : Nat) : updK (turnK R Fa) x none = turnK (updK R x none) Fa := by
  funext z; unfold turnK; rw [← freshK_drop]; unfold updK
  by_cases e : z = x
  · simp [e]
  · simp [e]
theorem farK_put (R : Nat → Option (Int × Int)) (Fa : Nat → Bool) (x : Nat) (p : Int × Int) : updK (farK R Fa) x none = farK (updK R x (some p)) (updB1 Fa x false) := by
  funext z; unfold updK farK updB1
  by_cases e : z = x
  · simp [e]
  · simp [e]
theorem freshK_put (R : Nat → Option (Int × Int)) (Fa : Nat → Bool) (x : Nat) (p : Int × Int) : updK (freshK R Fa) x (some p) = freshK (updK R x (some p)) (updB1 Fa x false) := by
  funext z; unfold updK freshK updB1
  by_cases e : z = x
  · simp [e]
  · simp [e]
theorem turnK_put (R : Nat → Option (Int × Int)) (Fa : Nat → Bool) (x : Nat) (p : Int × Int) : updK (turnK R Fa) x (some (p.2, 0)) = turnK (updK R x (some p)) (updB1 Fa x false) := by
  funext z; unfold turnK; rw [← freshK_put]; unfold updK
  by_cases e : z = x
  · simp [e]
  · simp [e]
theorem turnK_some (R : Nat → Option (Int × Int)) (Fa : Nat → Bool) (x : Nat) : (turnK R Fa x).isSome = (freshK R Fa x).isSome := by
  unfold turnK; simp
theorem ok_drop {R : Nat → Option (Int × Int)} (h : ∀ x a b, R x = some (a, b) → i64 a ∧ i64 b ∧ okN x) (x : Nat) : ∀ z a b, updK R x none z = some (a, b) → i64 a ∧ i64 b ∧ okN z := by
  intro z a b q
  by_cases e : z = x
  · subst e; rw [updK_same] at q; cases q
  · rw [updK_other _ _ e] at q; exact h z a b q
theorem ok_put {R : Nat → Option (Int × Int)} (h : ∀ x a b, R x = some (a, b) → i64 a ∧ i64 b ∧ okN x) (x : Nat) {c d : Int} (hc : i64 c) (hd : i64 d) (hx : okN x) : ∀ z a b, updK R x (some (c, d)) z = some (a, b) → i64 a ∧ i64 b ∧ okN z := by
  intro z a b q
  by_cases e : z = x
  · subst e; rw [updK_same] at q; injection q with q; injection q with q1 q2; subst q1; subst q2; exact ⟨hc, hd, hx⟩
  · rw [updK_other _ _ e] at q; exact h z a b q
set_option maxHeartbeats 1000000 in
theorem ca_drop (h : CAt w lb R Fa q1 q2 q3 nf nr F1 F2 F3) {x : Nat} (hx : okN x) : Calls Try.prog 34 #[.pointer (some ⟨lb, 6, none⟩), .int .i64 x] w fun e w' => e = .returned (.tuple #[]) ∧ CAt w' lb (updK R x none) Fa q1 q2 q3 (lessN nf (farK R Fa x).isSome) (lessN nr (freshK R Fa x).isSome) F1 F2 F3 ∧ Fr (fun i => F1 i ∨ F2 i ∨ F3 i) w w' := by
  have HC := Lib.hid h
  have H1 := Lib.hid (qk_drop h.h1 hx)
  have p6 := h.p6
  have lt := h.lt
  clear h
  go_enter Try.func34, Try.ntmps34
  go_wp2_with fail
  refine H1.out.mono ?_
  rintro e w1 ⟨rfl, h1, f1⟩
  have p7 := f1.cell (p := ⟨lb, 7, none⟩) lt HC.out.n1
  rw [HC.out.p7] at p7
  have lt1 : lb < w1.heap.size := Nat.lt_of_lt_of_le lt f1.size
  have HK1 := Lib.hid h1
  have HF1 := Lib.hid f1
  have H2 := Lib.hid (qk_drop (HC.out.h2.fr f1 (fun i q q' => HC.out.d12 i q' q)) hx)
  clear h1 f1 p6
  generalize hO1 : (farK R Fa x).isSome = o1 at *
  have HO1 := Lib.hid hO1
  clear hO1
  go_wp2_with fail
  refine H2.out.mono ?_
  rintro e w2 ⟨rfl, h2, f2⟩
  have p8 := f2.cell (p := ⟨lb, 8, none⟩) lt1 HC.out.n2
  rw [HF1.out.cell (p := ⟨lb, 8, none⟩) lt HC.out.n1, HC.out.p8] at p8
  have lt2 : lb < w2.heap.size := Nat.lt_of_lt_of_le lt1 f2.size
  have HK2 := Lib.hid h2
  have HF2 := Lib.hid f2
  have H3 := Lib.hid (qk_drop ((HC.out.h3.fr HF1.out (fun i q q' => HC.out.d13 i q' q)).fr f2 (fun i q q' => HC.out.d23 i q' q)) hx)
  clear h2 f2 p7
  generalize hO2 : (freshK R Fa x).isSome = o2 at *
  have HO2 := Lib.hid hO2
  clear hO2
  rw [turnK_some R Fa x, HO2.out] at H3
  go_wp2_with fail
  refine H3.out.mono ?_
  rintro e w3 ⟨rfl, h3, f3⟩
  have HK3 := Lib.hid h3
  have HF3 := Lib.hid f3
  clear h3 f3
  go_wp2
  go_returns
  have hf : Fr (fun i => F1 i ∨ F2 i ∨ F3 i) w w3 := ((HF1.out.mono (fun _ q => .inl q)).trans HF2.out (fun _ q => .inl (.inr (.inl q)))).trans HF3.out (fun _ q => .inl (.inr (.inr q)))
  have gl : ¬ (F1 lb ∨ F2 lb ∨ F3 lb) := fun q => q.elim HC.out.n1 (fun q => q.elim HC.out.n2 HC.out.n3)
  refine ⟨rfl, ⟨?_, ?_, ?_, Nat.lt_of_lt_of_le lt hf.size, ?_, ?_, ?_, HC.out.d12, HC.out.d13, HC.out.d23, HC.out.n1, HC.out.n2, HC.out.n3, ok_drop HC.out.ok x⟩, hf⟩
  · rw [hf.cell (p := ⟨lb, 6, none⟩) lt gl]; exact HC.out.p6
  · rw [hf.cell (p := ⟨lb, 7, none⟩) lt gl]; exact HC.out.p7
  · rw [hf.cell (p := ⟨lb, 8, none⟩) lt gl]; exact HC.out.p8
  · rw [← farK_drop, HO1.out]; exact (HK1.out.fr HF2.out (HC.out.d12)).fr HF3.out (HC.out.d13)
  · rw [← freshK_drop, HO2.out]; exact HK2.out.fr HF3.out (HC.out.d23)
  · rw [← turnK_drop, HO2.out]; exact HK3.out
theorem CAt.less (h : CAt w lb R Fa q1 q2 q3 nf nr F1 F2 F3) (x : Nat) : lessN nf (farK R Fa x).isSome + lessN nr (freshK R Fa x).isSome = lessN (nf + nr) (R x).isSome := by
  have h1 := fun q => h.h1.pos (x := x) q
  have h2 := fun q => h.h2.pos (x := x) q
  unfold farK at h1 ⊢
  unfold freshK at h2 ⊢
  unfold lessN
  rcases hFa : Fa x with _ | _ <;> rcases e : R x with _ | p <;> simp [hFa, e] at h1 h2 ⊢ <;> omega
theorem CAt.less_more (h : CAt w lb R Fa q1 q2 q3 nf nr F1 F2 F3) (x : Nat) : lessN nf (farK R Fa x).isSome + moreN nr (freshK R Fa x).isSome = moreN (nf + nr) (R x).isSome := by
  have h1 := fun q => h.h1.pos (x := x) q
  have h2 := fun q => h.h2.pos (x := x) q
  unfold farK at h1 ⊢
  unfold freshK at h2 ⊢
  unfold lessN moreN
  rcases hFa : Fa x with _ | _ <;> rcases e : R x with _ | p <;> simp [hFa, e] at h1 h2 ⊢ <;> omega
theorem cc_drop (h : CC w lb R Fa t F) {x : Nat} (hx : okN x) : Calls Try.prog 34 #[.pointer (some ⟨lb, 6, none⟩), .int .i64 x] w fun e w' => e = .returned (.tuple #[]) ∧ CC w' lb (updK R x none) Fa (lessN t (R x).isSome) F ∧ Fr F w w' := by
  obtain ⟨q1, q2, q3, nf, nr, F1, F2, F3, h, rfl, hF⟩ := h
  refine (ca_drop h hx).mono ?_
  rintro e w' ⟨he, hc, f⟩
  exact ⟨he, ⟨q1, q2, q3, _, _, F1, F2, F3, hc, h.less x, hF⟩, f.mono (fun i q => (hF i).2 q)⟩
set_option maxRecDepth 100000 in
set_option maxHeartbeats 2000000 in
theorem cc_put (h : CC w lb R Fa t F) {x : Nat} {a b : Int} (hx : okN x) (ha : i64 a) (hb : i64 b) (ht : t < 900000) : Calls Try.prog 31 #[.pointer (some ⟨lb, 6, none⟩), .int .i64 x, .agg #[.int .i64 a, .int .i64 b]] w fun e w' => e = .returned (.tuple #[]) ∧ ∃ F', CC w' lb (updK R x (some (a, b))) (updB1 Fa x false) (moreN t (R x).isSome) F' ∧ Fr F w w' ∧ ∀ i, F' i → F i ∨ w.heap.size ≤ i := by
  obtain ⟨q1, q2, q3, nf, nr, F1, F2, F3, h, rfl, hF⟩ := h
  have HC := Lib.hid h
  have HM := Lib.hid (h.less_more x)
  have HHF := Lib.hid hF
  have fA : Fr NoF w (w.alloc (.cells #[.int .i64 a, .int .i64 b] 89)) := (Fr.refl NoF w).alloc _
  have bA : Blk (w.alloc (.cells #[.int .i64 a, .int .i64 b] 89)) w.heap.size 2 (fun i => if i = 0 then .int .i64 a else .int .i64 b) := Blk.new w _ 89 2 _ _ rfl rfl (fun i hi => by
    match i, hi with
    | 0, _ => rfl
    | 1, _ => rfl)
  have H0 := Lib.hid (h.fr fA (fun _ _ q => q) (fun _ _ q => q) (fun _ _ q => q) (fun q => q))
  have HFA := Lib.hid fA
  have HBA := Lib.hid bA
  have hsz : (w.alloc (.cells #[.int .i64 a, .int .i64 b] 89)).heap.size = w.heap.size + 1 := by simp
  have hS := Lib.hid hsz
  have H1 := Lib.hid (qk_drop H0.out.h1 hx)
  have p6 := h.p6
  have lt := h.lt
  clear h fA hsz bA hF
  go_enter Try.func31, Try.ntmps31
  go_wp2_with fail
  generalize w.alloc (.cells #[.int .i64 a, .int .i64 b] 89) = w0 at *
  refine H1.out.mono ?_
  rintro e w1 ⟨rfl, h1, f1⟩
  have lt0 := H0.out.lt
  have p7 := f1.cell (p := ⟨lb, 7, none⟩) lt0 HC.out.n1
  rw [H0.out.p7] at p7
  have lt1 : lb < w1.heap.size := Nat.lt_of_lt_of_le lt0 f1.size
  have hb1 := HBA.out.fr f1 (fun q => by have := HC.out.h1.lt _ q; omega)
  have k0 : w1.cell? ⟨w.heap.size, 0, none⟩ = some (.int .i64 a) := hb1.cell (i := 0) (by omega)
  have k1 : w1.cell? ⟨w.heap.size, 1, none⟩ = some (.int .i64 b) := hb1.cell (i := 1) (by omega)
  have lk1 := hb1.lt
  have HB1 := Lib.hid hb1
  have HK1 := Lib.hid h1
  have HF1 := Lib.hid f1
  have H2 := Lib.hid (qk_put ((H0.out.h2.fr f1 (fun i q q' => HC.out.d12 i q' q)).fr0 (Fr.refl NoF w1).drew) hx ha hb (by omega))
  clear h1 f1 p6 hb1 lt
  generalize hO1 : (farK R Fa x).isSome = o1 at *
  have HO1 := Lib.hid hO1
  clear hO1
  go_wp2_with fail
  go_still_tail 6, (by kernel_rfl)
  go_wp2_with fail
  refine H2.out.mono ?_
  rintro e w2 ⟨rfl, F2', h2, f2, hF2⟩
  have hsz1 := HF1.out.size
  have hzz := HBA.out.lt
  have f12 : Fr F2 w1 w2 := ((Fr.refl F2 w1).drew).trans f2 (fun _ q => .inl q)
  have p8 := f12.cell (p := ⟨lb, 8, none⟩) lt1 HC.out.n2
  rw [HF1.out.cell (p := ⟨lb, 8, none⟩) lt0 HC.out.n1, H0.out.p8] at p8
  have lt2 : lb < w2.heap.size := Nat.lt_of_lt_of_le lt1 f12.size
  have hb2 := HB1.out.fr f12 (fun q => by have := HC.out.h2.lt _ q; omega)
  have m1 : w2.cell? ⟨w.heap.size, 1, none⟩ = some (.int .i64 b) := hb2.cell (i := 1) (by omega)
  have lk2 := hb2.lt
  have HK2 := Lib.hid h2
  have HF2 := Lib.hid f12
  have HG2 := Lib.hid hF2
  have i0 : i64 0 := i64_in ⟨by omega, by omega⟩
  have H3 := Lib.hid (qk_put ((((H0.out.h3.fr HF1.out (fun i q q' => HC.out.d13 i q' q)).fr f12 (fun i q q' => HC.out.d23 i q' q))).fr0 (Fr.refl NoF w2).drew) hx hb i0 (by omega))
  clear h2 f2 f12 p7 hb2 hF2 k0 k1 hsz1 hzz
  generalize hO2 : (freshK R Fa x).isSome = o2 at *
  have HO2 := Lib.hid hO2
  clear hO2
  rw [turnK_some R Fa x, HO2.out] at H3
  go_wp2_with fail
  go_still_tail 8, (by kernel_rfl)
  go_wp2_with fail
  refine H3.out.mono ?_
  rintro e w3 ⟨rfl, F3', h3, f3, hF3⟩
  have f23 : Fr F3 w2 w3 := ((Fr.refl F3 w2).drew).trans f3 (fun _ q => .inl q)
  have HK3 := Lib.hid h3
  have HF3 := Lib.hid f23
  have HG3 := Lib.hid hF3
  clear h3 f3 f23 hF3
  go_wp2
  go_returns
  have hf : Fr (fun i => F1 i ∨ F2 i ∨ F3 i) w w3 := (((HFA.out.mono (fun _ q => q.elim)).trans HF1.out (fun _ q => .inl (.inl q))).trans HF2.out (fun _ q => .inl (.inr (.inl q)))).trans HF3.out (fun _ q => .inl (.inr (.inr q)))
  have gl : ¬ (F1 lb ∨ F2 lb ∨ F3 lb) := fun q => q.elim HC.out.n1 (fun q => q.elim HC.out.n2 HC.out.n3)
  have s1 : w.heap.size + 1 ≤ w1.heap.size := by have := HF1.out.size; have := HBA.out.lt; omega
  have s2 : w1.heap.size ≤ w2.heap.size := HF2.out.size
  have g2 : ∀ i, F2' i → F2 i ∨ w1.heap.size ≤ i := HG2.out
  have g3 : ∀ i, F3' i → F3 i ∨ w2.heap.size ≤ i := HG3.out
  have b1 := HC.out.h1.lt
  have b2 : ∀ i, F2' i → i < w2.heap.size := HK2.out.lt
  have b3 := HC.out.h3.lt
  have bl := HC.out.lt
  refine ⟨rfl, fun i => F1 i ∨ F2' i ∨ F3' i, ⟨q1, q2, q3, _, _, F1, F2', F3', ⟨?_, ?_, ?_, Nat.lt_of_lt_of_le HC.out.lt hf.size, ?_, ?_, ?_, fun i q q' => ?_, fun i q q' => ?_, fun i q q' => ?_, HC.out.n1, fun q => ?_, fun q => ?_, ok_put HC.out.ok x ha hb hx⟩, HM.out, fun i => Iff.rfl⟩, hf.mono (fun i q => (HHF.out i).2 q), fun i q => ?_⟩
  · rw [hf.cell (p := ⟨lb, 6, none⟩) HC.out.lt gl]; exact HC.out.p6
  · rw [hf.cell (p := ⟨lb, 7, none⟩) HC.out.lt gl]; exact HC.out.p7
  · rw [hf.cell (p := ⟨lb, 8, none⟩) HC.out.lt gl]; exact HC.out.p8
  · rw [← farK_put R Fa x (a, b)]; exact (HK1.out.fr HF2.out (HC.out.d12)).fr HF3.out (HC.out.d13)
  · rw [← freshK_put]; exact HK2.out.fr HF3.out (fun i q q' => (g2 i q).elim (fun q => HC.out.d23 i q q') (fun q => by have := b3 i q'; omega))
  · rw [← turnK_put]; exact HK3.out
  · exact (g2 i q').elim (HC.out.d12 i q) (fun z => by have := b1 i q; omega)
  · exact (g3 i q').elim (HC.out.d13 i q) (fun z => by have := b1 i q; omega)
  · rcases g3 i q' with z | z
    · exact (g2 i q).elim (fun q => HC.out.d23 i q z) (fun q => by have := b3 i z; omega)
    · have := b2 i q; omega
  · exact (g2 _ q).elim HC.out.n2 (fun z => by omega)
  · exact (g3 _ q).elim HC.out.n3 (fun z => by omega)
  · rcases q with q | q | q
    · exact .inl ((HHF.out i).2 (.inl q))
    · exact (g2 i q).elim (fun z => .inl ((HHF.out i).2 (.inr (.inl z)))) (fun z => .inr (by omega))
    · exact (g3 i q).elim (fun z => .inl ((HHF.out i).2 (.inr (.inr z)))) (fun z => .inr (by omega))
end
end Go.Proofs.Ytbnckhkamebibaa
namespace Go.Proofs.Ytbnckhkamebibaa
open Go.RowKit Go.Maps
set_option linter.unusedVariables false

/-- Far is what was, and what was touched at that time or earlier. -/
def Aged (R : Nat → Option (Int × Int)) (Fa Fb : Nat → Bool) (until' : Int) : Prop := ∀ x a b, R x = some (a, b) → (Fb x = true ↔ (Fa x = true ∨ b ≤ until'))
/-- .. some of it. -/
def Aging (R : Nat → Option (Int × Int)) (Fa Fb : Nat → Bool) (until' : Int) : Prop := ∀ x a b, R x = some (a, b) → ((Fa x = true → Fb x = true) ∧ (Fb x = true → (Fa x = true ∨ b ≤ until')))
theorem Aging.refl (R : Nat → Option (Int × Int)) (Fa : Nat → Bool) (u : Int) : Aging R Fa Fa u := fun x a b _ => ⟨fun q => q, fun q => .inl q⟩
theorem Aging.step {R : Nat → Option (Int × Int)} {Fa Fb : Nat → Bool} {u : Int} (h : Aging R Fa Fb u) {x : Nat} {a b : Int} (hx : R x = some (a, b)) (hb : b ≤ u) : Aging R Fa (updB1 Fb x true) u := by
  intro z c d hz
  by_cases e : z = x
  · subst e
    rw [hx] at hz
    injection hz with hz
    injection hz with h1 h2
    subst h1; subst h2
    rw [updB1_same]
    exact ⟨fun _ => rfl, fun _ => .inr hb⟩
  · rw [updB1_other _ _ e]
    exact h z c d hz
theorem Aging.done {R : Nat → Option (Int × Int)} {Fa Fb : Nat → Bool} {u : Int} (h : Aging R Fa Fb u) (hl : ∀ z c d, freshK R Fb z = some (c, d) → u < d) : Aged R Fa Fb u := by
  intro x a b hx
  refine ⟨(h x a b hx).2, fun q => ?_⟩
  rcases q with q | q
  · exact (h x a b hx).1 q
  · cases e : Fb x with
    | true => rfl
    | false =>
      have := hl x a b (by unfold freshK; rw [e]; exact hx)
      omega
theorem farK_moved {R : Nat → Option (Int × Int)} {Fa : Nat → Bool} {x : Nat} {p : Int × Int} (hx : R x = some p) : updK (farK (updK R x none) Fa) x (some p) = farK R (updB1 Fa x true) := by
  funext z; unfold updK farK updB1
  by_cases e : z = x
  · subst e; simp [hx]
  · simp [e]
theorem freshK_moved {R : Nat → Option (Int × Int)} {Fa : Nat → Bool} {x : Nat} : freshK (updK R x none) Fa = freshK R (updB1 Fa x true) := by
  funext z; unfold updK freshK updB1
  by_cases e : z = x
  · subst e; simp
  · simp [e]
theorem turnK_moved {R : Nat → Option (Int × Int)} {Fa : Nat → Bool} {x : Nat} : turnK (updK R x none) Fa = turnK R (updB1 Fa x true) := by
  funext z; unfold turnK; rw [freshK_moved]
section
variable {w w' : World} {lb t : Nat} {R : Nat → Option (Int × Int)} {Fa : Nat → Bool} {q1 q2 q3 nf nr : Nat} {F F1 F2 F3 : Nat → Prop}
/-- One that has become far. -/
theorem CAt.moved {x : Nat} {p : Int × Int} (hx : R x = some p) {nf' nr' nf2 : Nat} (h : CAt w lb (updK R x none) Fa q1 q2 q3 nf' nr' F1 F2 F3) {F1' : Nat → Prop} (h1 : QK w' q1 (updK (farK (updK R x none) Fa) x (some p)) nf2 F1') (f : Fr F1 w w') (hF : ∀ i, F1' i → F1 i ∨ w.heap.size ≤ i) (ok : ∀ x a b, R x = some (a, b) → i64 a ∧ i64 b ∧ okN x) : CAt w' lb R (updB1 Fa x true) q1 q2 q3 nf2 nr' F1' F2 F3 := by
  refine ⟨?_, ?_, ?_, Nat.lt_of_lt_of_le h.lt f.size, ?_, ?_, ?_, fun i q q' => ?_, fun i q q' => ?_, h.d23, fun q => ?_, h.n2, h.n3, ok⟩
  · rw [f.cell (p := ⟨lb, 6, none⟩) h.lt h.n1]; exact h.p6
  · rw [f.cell (p := ⟨lb, 7, none⟩) h.lt h.n1]; exact h.p7
  · rw [f.cell (p := ⟨lb, 8, none⟩) h.lt h.n1]; exact h.p8
  · rw [← farK_moved hx]; exact h1
  · rw [← freshK_moved]; exact h.h2.fr f (fun i q q' => h.d12 i q' q)
  · rw [← turnK_moved]; exact h.h3.fr f (fun i q q' => h.d13 i q' q)
  · exact (hF i q).elim (fun z => h.d12 i z q') (fun z => by have := h.h2.lt i q'; omega)
  · exact (hF i q).elim (fun z => h.d13 i z q') (fun z => by have := h.h3.lt i q'; omega)
  · exact (hF _ q).elim h.n1 (fun z => by have := h.lt; omega)
theorem fresh_turn {z : Nat} {c d : Int} (h : freshK R Fa z = some (c, d)) : turnK R Fa z = some (d, 0) := by unfold turnK; rw [h]; rfl
theorem turn_fresh {z : Nat} {c d : Int} (h : turnK R Fa z = some (c, d)) : ∃ e, freshK R Fa z = some (e, c) ∧ d = 0 := by
  unfold turnK at h
  cases e : freshK R Fa z with
  | none => rw [e] at h; cases h
  | some p =>
    rw [e] at h
    injection h with h
    injection h with h1 h2
    exact ⟨p.1, by rw [← h1], h2.symm⟩
theorem fresh_R {z : Nat} {c d : Int} (h : freshK R Fa z = some (c, d)) : Fa z = false ∧ R z = some (c, d) := by
  unfold freshK at h
  cases e : Fa z with
  | true => rw [e] at h; cases h
  | false => rw [e] at h; exact ⟨rfl, h⟩
set_option maxRecDepth 100000 in
set_option maxHeartbeats 4000000 in
theorem ca_age (h : CAt w lb R Fa q1 q2 q3 nf nr F1 F2 F3) (ht : nf + nr < 900000) (u : Int) : Calls Try.prog 50 #[.pointer (some ⟨lb, 6, none⟩), .int .i64 u] w fun e w' => e = .returned (.tuple #[]) ∧ ∃ Fb nf' nr' F1', CAt w' lb R Fb q1 q2 q3 nf' nr' F1' F2 F3 ∧ nf' + nr' = nf + nr ∧ Aged R Fa Fb u ∧ Fr (fun i => F1 i ∨ F2 i ∨ F3 i) w w' ∧ ∀ i, F1' i → F1 i ∨ w.heap.size ≤ i := by
  have HC := Lib.hid h
  clear h
  go_enter Try.func50, Try.ntmps50
  go_wp2_with fail
  go_loopg [] nr (fun g wr => ∃ Fb nf' F1', CAt wr lb R Fb q1 q2 q3 nf' g F1' F2 F3 ∧ nf' + g = nf + nr ∧ Aging R Fa Fb u ∧ Fr (fun i => F1 i ∨ F2 i ∨ F3 i) w wr ∧ ∀ i, F1' i → F1 i ∨ w.heap.size ≤ i)
  case atStart => exact ⟨Fa, nf, F1, HC.out, rfl, Aging.refl _ _ _, Fr.refl _ _, fun i q => .inl q⟩
  case round =>
    obtain ⟨Fb, nf', F1', hc, hn, hag, hf, hF1⟩ := hrel
    have HK := Lib.hid hc
    have HN := Lib.hid hn
    have HAG := Lib.hid hag
    have HFR := Lib.hid hf
    have HF1 := Lib.hid hF1
    have p8 := hc.p8
    have p7 := hc.p7
    have lt := hc.lt
    by_cases h0 : gk = 0
    · subst h0
      have HL := Lib.hid (qk_least_no hc.h3)
      have HO := Lib.hid (qk_of hc.h2 (x := 0) (show (0 : Nat) < 4294967296 by omega))
      have hend : Aged R Fa Fb u := hag.done (fun z c d q => by
        have := hc.h2.zero z
        rw [this] at q
        cases q)
      have HE := Lib.hid hend
      clear hc hn hag hf hF1 hend
      go_wp2_with fail
      refine HL.out.mono ?_
      rintro e w1 ⟨rfl, rfl⟩
      go_wp2_with fail
      refine HO.out.mono ?_
      rintro e w1 ⟨rfl, f1⟩
      have HF2 := Lib.hid f1
      clear f1
      go_wp2
      go_returns
      exact ⟨rfl, Fb, nf', 0, F1', HK.out.fr0 (HF2.out.alloc _), HN.out, HE.out, HFR.out.trans (HF2.out.alloc _) (fun _ q => q.elim), HF1.out⟩
    · obtain ⟨x, hl, HL⟩ := qk_least hc.h3 (by omega)
      obtain ⟨tb, t0, htx, hmin⟩ := hl
      obtain ⟨ra, hfx, rfl⟩ := turn_fresh htx
      obtain ⟨hFx, hRx⟩ := fresh_R hfx
      obtain ⟨iA, iB, hx⟩ := hc.ok x ra tb hRx
      have HO := Lib.hid (qk_of hc.h2 hx)
      rw [hfx] at HO
      simp only [Option.getD_some, Option.isSome_some] at HO
      have HX := Lib.hid hx
      have HRX := Lib.hid hRx
      have HFX := Lib.hid hFx
      have HFR2 := Lib.hid hfx
      have HIA := Lib.hid iA
      have HIB := Lib.hid iB
      have HMIN := Lib.hid hmin
      by_cases hb : u < tb
      · have hend : Aged R Fa Fb u := hag.done (fun z c d q => by
          rcases hmin z d 0 (fresh_turn q) with h | ⟨h, _⟩ <;> omega)
        have HE := Lib.hid hend
        clear hc hn hag hf hF1 hend hx hRx hFx hfx iA iB hmin htx
        go_wp2_with fail
        refine (HL.out _ (Fr.refl _ _)).mono ?_
        rintro e w1 ⟨rfl, rfl⟩
        go_wp2_with fail
        refine HO.out.mono ?_
        rintro e w1 ⟨rfl, f1⟩
        have HF2 := Lib.hid f1
        clear f1
        go_wp2
        go_returns
        exact ⟨rfl, Fb, nf', gk, F1', HK.out.fr0 (HF2.out.alloc _), HN.out, HE.out, HFR.out.trans (HF2.out.alloc _) (fun _ q => q.elim), HF1.out⟩
      · have HB := Lib.hid hb
        have hd : decide (u < tb) = false := by simpa using hb
        clear hc hn hag hf hF1 hx hRx hFx hfx iA iB hmin htx hb
        go_wp2_with fail
        refine (HL.out _ (Fr.refl _ _)).mono ?_
        rintro e w1 ⟨rfl, rfl⟩
        go_wp2_with fail
        refine HO.out.mono ?_
        rintro e w1 ⟨rfl, f1⟩
        have HF2 := Lib.hid f1
        clear f1
        go_wp2_with fail
        have fA : Fr NoF wr (w1.alloc (.cells #[.int .i64 ra, .int .i64 tb] 89)) := HF2.out.alloc _
        have bA : Blk (w1.alloc (.cells #[.int .i64 ra, .int .i64 tb] 89)) w1.heap.size 2 (fun i => if i = 0 then .int .i64 ra else .int .i64 tb) := Blk.new w1 _ 89 2 _ _ rfl rfl (fun i hi => by
          match i, hi with
          | 0, _ => rfl
          | 1, _ => rfl)
        have HFA := Lib.hid fA
        have HBA := Lib.hid bA
        have HKA := Lib.hid (HK.out.fr0 fA)
        have hwr := HF2.out.size
        clear fA bA HF2
        generalize w1.heap.size = kb at *
        generalize w1.alloc (.cells #[.int .i64 ra, .int .i64 tb] 89) = wA at *
        refine (ca_drop HKA.out HX.out).mono ?_
        rintro e w2 ⟨rfl, hc2, f2⟩
        have nK : ¬ (F1' kb ∨ F2 kb ∨ F3 kb) := fun q => q.elim (fun q => by have := HK.out.h1.lt _ q; omega) (fun q => q.elim (fun q => by have := HK.out.h2.lt _ q; omega) (fun q => by have := HK.out.h3.lt _ q; omega))
        have hb2 := HBA.out.fr f2 nK
        have k0 : w2.cell? ⟨kb, 0, none⟩ = some (.int .i64 ra) := hb2.cell (i := 0) (by omega)
        have k1 : w2.cell? ⟨kb, 1, none⟩ = some (.int .i64 tb) := hb2.cell (i := 1) (by omega)
        have lk := hb2.lt
        have p6 := hc2.p6
        have lt2 := hc2.lt
        have hnf : lessN nf' (farK R Fb x).isSome = nf' := by
          have e : farK R Fb x = none := by unfold farK; rw [HFX.out]; rfl
          rw [e]; rfl
        have hnr : lessN gk (freshK R Fb x).isSome = gk - 1 := by rw [HFR2.out]; rfl
        rw [hnf, hnr] at hc2
        have e0 : (farK (updK R x none) Fb x).isSome = false := by unfold farK; rw [updK_same]; split <;> rfl
        have HP := qk_put (hc2.h1.fr0 (Fr.refl NoF w2).drew) HX.out HIA.out HIB.out (by have := HN.out; omega)
        rw [e0] at HP
        have HP := Lib.hid HP
        have HC2 := Lib.hid hc2
        have HF3 := Lib.hid f2
        clear hc2 f2 hb2 p7 p8 e0 hnf hnr nK
        go_wp2_with fail
        go_still_tail 6, (by kernel_rfl)
        go_wp2_with fail
        refine HP.out.mono ?_
        rintro e w3 ⟨rfl, F1n, h3, f3, hF3⟩
        have f23 : Fr F1' w2 w3 := ((Fr.refl F1' w2).drew).trans f3 (fun _ q => .inl q)
        have hk3 := HC2.out.moved HRX.out h3 f23 hF3 HK.out.ok
        have HK3 := Lib.hid hk3
        have HF4 := Lib.hid f23
        have HG3 := Lib.hid hF3
        clear h3 f3 f23 hF3 hk3 k0 k1
        go_wp2
        go_roundg (gk - 1)
        case rel =>
          have hw2 : w.heap.size ≤ w2.heap.size := Nat.le_trans HFR.out.size (Nat.le_trans HFA.out.size HF3.out.size)
          have g1 : ∀ i, F1' i → F1 i ∨ w.heap.size ≤ i := HF1.out
          have g3 : ∀ i, F1n i → F1' i ∨ w2.heap.size ≤ i := HG3.out
          refine ⟨_, _, F1n, HK3.out, ?_, HAG.out.step HRX.out (by have := HB.out; omega), ?_, fun i q => ?_⟩
          · show moreN nf' false + (gk - 1) = nf + nr
            have := HN.out
            have : moreN nf' false = nf' + 1 := rfl
            omega
          · have fA : Fr (fun i => F1' i ∨ F2 i ∨ F3 i) wr w3 := ((HFA.out.mono (fun _ q => q.elim)).trans HF3.out (fun _ q => .inl q)).trans HF4.out (fun _ q => .inl (.inl q))
            refine HFR.out.trans fA (fun i q => ?_)
            rcases q with q | q | q
            · exact (g1 i q).elim (fun z => .inl (.inl z)) (fun z => .inr z)
            · exact .inl (.inr (.inl q))
            · exact .inl (.inr (.inr q))
          · exact (g3 i q).elim (g1 i) (fun z => .inr (by omega))
        case measure => omega
/-- The one that goes: of what is far, if there is any; else of what is not. -/
def LeastC (R : Nat → Option (Int × Int)) (Fb : Nat → Bool) (x : Nat) : Prop := LeastK (farK R Fb) x ∨ ((∀ z, farK R Fb z = none) ∧ LeastK (freshK R Fb) x)
theorem cc_least (h : CC w lb R Fa t F) (ht : t < 900000) (h0 : 0 < t) (u : Int) : Calls Try.prog 35 #[.pointer (some ⟨lb, 6, none⟩), .int .i64 u] w fun e w' => ∃ x : Nat, e = .returned (.tuple #[.int .i64 x, .bool true]) ∧ ∃ Fb F', CC w' lb R Fb t F' ∧ Aged R Fa Fb u ∧ LeastC R Fb x ∧ Fr F w w' ∧ ∀ i, F' i → F i ∨ w.heap.size ≤ i := by
  obtain ⟨q1, q2, q3, nf, nr, F1, F2, F3, h, rfl, hF⟩ := h
  have HA := Lib.hid (ca_age h ht u)
  have HH := Lib.hid h
  have HHF := Lib.hid hF
  clear h hF
  go_enter Try.func35, Try.ntmps35
  go_wp2_with fail
  refine HA.out.mono ?_
  rintro e w1 ⟨rfl, Fb, nf', nr', F1', hc, hn, hag, hf, hF1⟩
  have p6 := hc.p6
  have p7 := hc.p7
  have lt := hc.lt
  have HRES : Hid (CC w1 lb R Fb (nf + nr) (fun i => F1' i ∨ F2 i ∨ F3 i) ∧ Aged R Fa Fb u ∧ Fr F w w1 ∧ ∀ i, (F1' i ∨ F2 i ∨ F3 i) → F i ∨ w.heap.size ≤ i) := ⟨⟨q1, q2, q3, nf', nr', F1', F2, F3, hc, hn, fun i => Iff.rfl⟩, hag, hf.mono (fun i q => (HHF.out i).2 q), fun i q => by
    rcases q with q | q | q
    · exact (hF1 i q).elim (fun z => .inl ((HHF.out i).2 (.inl z))) .inr
    · exact .inl ((HHF.out i).2 (.inr (.inl q)))
    · exact .inl ((HHF.out i).2 (.inr (.inr q)))⟩
  by_cases hz : nf' = 0
  · subst hz
    have HL := Lib.hid (qk_least_no hc.h1)
    obtain ⟨x, hl, HL2⟩ := qk_least hc.h2 (by omega)
    have HLC : Hid (LeastC R Fb x) := .inr ⟨fun z => hc.h1.zero z, hl⟩
    clear hc hn hag hf hF1 hl
    go_wp2_with fail
    refine HL.out.mono ?_
    rintro e w2 ⟨rfl, rfl⟩
    go_wp2_with fail
    refine (HL2.out _ (Fr.refl _ _)).mono ?_
    rintro e w2 ⟨rfl, rfl⟩
    go_wp2
    go_returns
    exact ⟨x, rfl, Fb, _, HRES.out.1, HRES.out.2.1, HLC.out, HRES.out.2.2⟩
  · obtain ⟨x, hl, HL⟩ := qk_least hc.h1 (by omega)
    have HLC : Hid (LeastC R Fb x) := .inl hl
    clear hc hn hag hf hF1 hl
    go_wp2_with fail
    refine (HL.out _ (Fr.refl _ _)).mono ?_
    rintro e w2 ⟨rfl, rfl⟩
    go_wp2
    go_returns
    exact ⟨x, rfl, Fb, _, HRES.out.1, HRES.out.2.1, HLC.out, HRES.out.2.2⟩
end
end Go.Proofs.Ytbnckhkamebibaa
namespace Go.Proofs.Ytbnckhkamebibaa
open Go.RowKit Go.Maps
set_option linter.unusedVariables false

/-- What an LRUK is. -/
structure LK where
  n : Nat
  k : Nat
  near : Nat
  kept : Nat
  T : Nat
  fr : Nat → Bool × Nat
  P : Nat → Option (Int × (Nat → Int))
  R : Nat → Option (Int × Int)
  Fa : Nat → Bool
  t : Nat
  Old : List (Nat × Nat)
  gone : Nat

def zeroPast : Value := pastV 0 (fun _ => 0)
def psM (P : Nat → Option (Int × (Nat → Int))) : Int → Option Value := fun x => if x < 0 then none else (P x.toNat).map fun p => pastV p.1 p.2
def updO {α : Type} (P : Nat → Option α) (x : Nat) (y : Option α) : Nat → Option α := fun z => if z = x then y else P z
theorem updO_same {α : Type} (P : Nat → Option α) (x : Nat) (y : Option α) : updO P x y x = y := if_pos rfl
theorem updO_other {α : Type} (P : Nat → Option α) {x z : Nat} (y : Option α) (h : ¬ z = x) : updO P x y z = P z := if_neg h
theorem psM_at (P : Nat → Option (Int × (Nat → Int))) (x : Nat) : psM P (x : Int) = (P x).map fun p => pastV p.1 p.2 := by
  unfold psM
  rw [if_neg (by omega)]; rfl
theorem psM_upd (P : Nat → Option (Int × (Nat → Int))) (x : Nat) (p : Option (Int × (Nat → Int))) : updV (psM P) (x : Int) (p.map fun p => pastV p.1 p.2) = psM (updO P x p) := by
  funext z
  by_cases e : z = (x : Int)
  · subst e; rw [updV_same, psM_at, updO_same]
  · rw [updV_other _ _ e]
    unfold psM
    by_cases h : z < 0
    · rw [if_pos h, if_pos h]
    · rw [if_neg h, if_neg h, updO_other _ _ (by omega)]
def pastOf (S : LK) (x : Nat) : Int × (Nat → Int) := (S.P x).getD (0, fun _ => 0)
def rankOf (S : LK) (x : Nat) : Int × Int := ((pastOf S x).2 (S.k - 1), (pastOf S x).1)
def oldK (l : List (Nat × Nat)) : Nat → Option (Int × Int) := fun x => (l.find? fun p => decide (p.1 = x)).map fun p => ((p.2 : Int), 0)
def frC (f : Nat → Bool × Nat) : Nat → Value := fun i => if i % 2 = 0 then .bool (f (i / 2)).1 else .int .u32 ((f (i / 2)).2 : Nat)
def lC (S : LK) (fb mb q1 q2 q3 q4 : Nat) : Nat → Value
  | 0 => .int .i64 S.k
  | 1 => .int .i64 S.near
  | 2 => .int .i64 S.kept
  | 3 => .int .i64 S.T
  | 4 => .slice (some ⟨fb, 0, none⟩) S.n S.n
  | 5 => .map (some mb)
  | 6 => .pointer (some ⟨q1, 0, none⟩)
  | 7 => .pointer (some ⟨q2, 0, none⟩)
  | 8 => .pointer (some ⟨q3, 0, none⟩)
  | 9 => .pointer (some ⟨q4, 0, none⟩)
  | _ => .int .i64 S.gone
theorem MVp : MV Try.prog 45 35 85 .u32 zeroPast := ⟨Try.underlying45, Try.underlying35, fun w => by kernel_rfl⟩
/-- How many of the first n there are. -/
def cntR (R : Nat → Option (Int × Int)) : Nat → Nat
  | 0 => 0
  | n + 1 => cntR R n + (if (R n).isSome then 1 else 0)
theorem cntR_le (R : Nat → Option (Int × Int)) (n : Nat) : cntR R n ≤ n := by
  induction n with
  | zero => exact Nat.le_refl _
  | succ n ih => unfold cntR; split <;> omega
theorem cntR_beyond (R : Nat → Option (Int × Int)) {x : Nat} (y : Option (Int × Int)) : ∀ {n : Nat}, n ≤ x → cntR (updK R x y) n = cntR R n
  | 0, _ => rfl
  | n + 1, h => by unfold cntR; rw [cntR_beyond R y (by omega), updK_other _ _ (by omega)]
theorem cntR_pos (R : Nat → Option (Int × Int)) {x : Nat} : ∀ {n : Nat}, x < n → (R x).isSome = true → 0 < cntR R n
  | n + 1, h, hx => by
    unfold cntR
    by_cases e : x = n
    · subst e; rw [if_pos hx]; omega
    · have := cntR_pos R (n := n) (by omega) hx; omega
theorem cntR_put (R : Nat → Option (Int × Int)) {x : Nat} (p : Int × Int) : ∀ {n : Nat}, x < n → cntR (updK R x (some p)) n = moreN (cntR R n) (R x).isSome
  | n + 1, h => by
    unfold cntR
    by_cases e : x = n
    · subst e; rw [cntR_beyond R _ (Nat.le_refl _), updK_same]; unfold moreN; cases (R x).isSome <;> simp
    · rw [cntR_put R p (n := n) (by omega), updK_other _ _ (by omega)]; unfold moreN; split <;> split <;> omega
theorem cntR_drop (R : Nat → Option (Int × Int)) {x : Nat} : ∀ {n : Nat}, x < n → cntR (updK R x none) n = lessN (cntR R n) (R x).isSome
  | n + 1, h => by
    unfold cntR
    by_cases e : x = n
    · subst e; rw [cntR_beyond R _ (Nat.le_refl _), updK_same]; unfold lessN; cases (R x).isSome <;> simp
    · rw [cntR_drop R (n := n) (by omega), updK_other _ _ (by omega)]
      have hp := cntR_pos R (x := x) (n := n) (by omega)
      unfold lessN
      cases hx : (R x).isSome with
      | false => simp
      | true => have := hp hx; rw [if_pos rfl, if_pos rfl]; split <;> omega
/-- What stays true of the numbers. -/
structure LOk (S : LK) : Prop where
  n1 : 1 ≤ S.n ∧ S.n ≤ 65535
  k1 : 1 ≤ S.k ∧ S.k ≤ 8
  near : S.near ≤ 1000000
  kept : S.kept ≤ 65535
  fr : ∀ i, okN (S.fr i).2
  past : ∀ x p, S.P x = some p → 0 ≤ p.1 ∧ p.1 ≤ S.T ∧ ∀ j, 0 ≤ p.2 j ∧ p.2 j ≤ p.1 ∧ p.2 j ≤ p.2 0
  tn : S.t = cntR S.R S.n
  old : ∀ p, p ∈ S.Old → okN p.1 ∧ p.2 ≤ S.gone
  oldn : S.Old.length ≤ S.gone
  ord : S.Old.Pairwise fun p q => p.2 < q.2 ∧ ¬ p.1 = q.1
theorem LOk.tle {S : LK} (h : LOk S) : S.t ≤ S.n := by rw [h.tn]; exact cntR_le _ _
/-- An LRUK in memory. -/
structure LM (w : World) (lb : Nat) (S : LK) (fb mb q1 q2 q3 q4 ne : Nat) (FC F4 : Nat → Prop) : Prop where
  blk : Blk w lb 11 (lC S fb mb q1 q2 q3 q4)
  frs : Blk w fb (2 * S.n) (frC S.fr)
  mp : MpV Try.prog 35 .u32 zeroPast w mb ne (psM S.P)
  cc : CC w lb S.R S.Fa S.t FC
  qk : QK w q4 (oldK S.Old) S.Old.length F4
  d1 : ¬ fb = lb
  d2 : ¬ mb = lb
  d3 : ¬ mb = fb
  d4 : ¬ FC fb
  d5 : ¬ FC mb
  d6 : ¬ F4 lb
  d7 : ¬ F4 fb
  d8 : ¬ F4 mb
  d9 : ∀ i, FC i → ¬ F4 i
  ne : ne ≤ S.T
  ok : LOk S
/-- All its blocks. -/
def LF (lb fb mb : Nat) (FC F4 : Nat → Prop) : Nat → Prop := fun i => i = lb ∨ i = fb ∨ i = mb ∨ FC i ∨ F4 i
section
variable {w w' : World} {lb fb mb q1 q2 q3 q4 ne : Nat} {S : LK} {FC F4 : Nat → Prop}
theorem LM.fr0 (h : LM w lb S fb mb q1 q2 q3 q4 ne FC F4) (f : Fr NoF w w') : LM w' lb S fb mb q1 q2 q3 q4 ne FC F4 :=
  ⟨h.blk.fr f (fun q => q), h.frs.fr f (fun q => q), h.mp.fr f (fun q => q), h.cc.fr0 f, h.qk.fr0 f, h.d1, h.d2, h.d3, h.d4, h.d5, h.d6, h.d7, h.d8, h.d9, h.ne, h.ok⟩
theorem LM.fr (h : LM w lb S fb mb q1 q2 q3 q4 ne FC F4) {G : Nat → Prop} (f : Fr G w w') (g : ∀ i, LF lb fb mb FC F4 i → ¬ G i) : LM w' lb S fb mb q1 q2 q3 q4 ne FC F4 :=
  ⟨h.blk.fr f (g lb (.inl rfl)), h.frs.fr f (g fb (.inr (.inl rfl))), h.mp.fr f (g mb (.inr (.inr (.inl rfl)))), h.cc.fr f (fun i q => g i (.inr (.inr (.inr (.inl q))))) (g lb (.inl rfl)), h.qk.fr f (fun i q => g i (.inr (.inr (.inr (.inr q))))), h.d1, h.d2, h.d3, h.d4, h.d5, h.d6, h.d7, h.d8, h.d9, h.ne, h.ok⟩
theorem LM.lt (h : LM w lb S fb mb q1 q2 q3 q4 ne FC F4) : ∀ i, LF lb fb mb FC F4 i → i < w.heap.size := by
  rintro i (rfl | rfl | rfl | q | q)
  · exact h.blk.lt
  · exact h.frs.lt
  · exact h.mp.lt
  · exact h.cc.lt i q
  · exact h.qk.lt i q
theorem LM.ce (h : LM w lb S fb mb q1 q2 q3 q4 ne FC F4) (i : Nat) (hi : i < 11) : w.cell? ⟨lb, i, none⟩ = some (lC S fb mb q1 q2 q3 q4 i) := h.blk.cell hi
theorem LM.full (h : LM w lb S fb mb q1 q2 q3 q4 ne FC F4) {at' : Nat} (ha : at' < S.n) : w.cell? ⟨fb, at' * 2, none⟩ = some (.bool (S.fr at').1) := by
  have := h.frs.cell (i := at' * 2) (by omega)
  unfold frC at this
  rw [if_pos (by omega), show at' * 2 / 2 = at' from by omega] at this
  exact this
theorem LM.page (h : LM w lb S fb mb q1 q2 q3 q4 ne FC F4) {at' : Nat} (ha : at' < S.n) : w.cell? ⟨fb, at' * 2 + 1, none⟩ = some (.int .u32 ((S.fr at').2 : Nat)) := by
  have := h.frs.cell (i := at' * 2 + 1) (by omega)
  unfold frC at this
  rw [if_neg (by omega), show (at' * 2 + 1) / 2 = at' from by omega] at this
  exact this
theorem isFrame_calls (h : LM w lb S fb mb q1 q2 q3 q4 ne FC F4) {at' : Nat} (ha : at' < S.n) : Calls Try.prog 27 #[.pointer (some ⟨lb, 0, none⟩), .int .i64 at'] w fun e w' => e = .returned (.bool true) ∧ w = w' := by
  have c4 : w.cell? ⟨lb, 4, none⟩ = some (.slice (some ⟨fb, 0, none⟩) S.n S.n) := h.ce 4 (by omega)
  have lt := h.blk.lt
  have h1 : (at' : Int) < S.n := by omega
  have h2 : 0 ≤ (at' : Int) := by omega
  clear h
  go_enter Try.func27, Try.ntmps27
  go_wp2
  go_returns
  exact ⟨rfl, rfl⟩
theorem has_calls (h : LM w lb S fb mb q1 q2 q3 q4 ne FC F4) {at' : Nat} (ha : at' < S.n) : Calls Try.prog 33 #[.pointer (some ⟨lb, 0, none⟩), .int .i64 at'] w fun e w' => e = .returned (.bool (S.fr at').1) ∧ w = w' := by
  have HI := Lib.hid (isFrame_calls h ha)
  have c4 : w.cell? ⟨lb, 4, none⟩ = some (.slice (some ⟨fb, 0, none⟩) S.n S.n) := h.ce 4 (by omega)
  have lt := h.blk.lt
  have hfu := h.full ha
  have lf := h.frs.lt
  have h1 : (at' : Int) < S.n := by omega
  have h2 : 0 ≤ (at' : Int) := by omega
  generalize (S.fr at').1 = fu at *
  clear h
  go_enter Try.func33, Try.ntmps33
  go_wp2_with fail
  refine HI.out.mono ?_
  rintro e w1 ⟨rfl, rfl⟩
  go_wp2
  go_returns
  exact ⟨rfl, rfl⟩
theorem lsize_calls (h : LM w lb S fb mb q1 q2 q3 q4 ne FC F4) : Calls Try.prog 19 #[.pointer (some ⟨lb, 0, none⟩)] w fun e w' => e = .returned (.int .i64 (S.t : Nat)) ∧ Fr NoF w w' := by
  have HL := Lib.hid (cc_len h.cc (by have := h.ok.tle; have := h.ok.n1; omega))
  have lt := h.blk.lt
  clear h
  go_enter Try.func19, Try.ntmps19
  go_wp2_with fail
  refine HL.out.mono ?_
  rintro e w1 ⟨rfl, f1⟩
  go_wp2
  go_returns
  exact ⟨rfl, f1⟩
theorem lmiss_calls (w : World) (lb : Nat) (x : Int) : Calls Try.prog 14 #[.pointer (some ⟨lb, 0, none⟩), .int .u32 x] w fun e w' => e = .returned (.tuple #[]) ∧ w = w' := by
  go_enter Try.func14, Try.ntmps14
  go_wp2
  go_returns
  exact ⟨rfl, rfl⟩
theorem okN_wf {x : Nat} (h : okN x) : (Lit.int .u32 (x : Nat)).wf = true := WalkArith.wf_u32 ⟨by omega, by unfold okN at h; omega⟩
end
end Go.Proofs.Ytbnckhkamebibaa
namespace Go.Proofs.Ytbnckhkamebibaa
open Go.RowKit Go.Maps
set_option linter.unusedVariables false

def updF (f : Nat → Bool × Nat) (x : Nat) (p : Bool × Nat) : Nat → Bool × Nat := fun i => if i = x then p else f i
theorem updF_same (f : Nat → Bool × Nat) (x : Nat) (p : Bool × Nat) : updF f x p x = p := if_pos rfl
theorem updF_other (f : Nat → Bool × Nat) {x z : Nat} (p : Bool × Nat) (h : ¬ z = x) : updF f x p z = f z := if_neg h
section
variable {w w' : World} {lb fb mb q1 q2 q3 q4 ne : Nat} {S : LK} {FC F4 : Nat → Prop}
theorem LM.newFr (h : LM w lb S fb mb q1 q2 q3 q4 ne FC F4) {f' : Nat → Bool × Nat} (hb : Blk w' fb (2 * S.n) (frC f')) (f : Fr (fun i => i = fb) w w') (hok : ∀ i, okN (f' i).2) : LM w' lb { S with fr := f' } fb mb q1 q2 q3 q4 ne FC F4 :=
  ⟨h.blk.fr f (fun q => h.d1 q.symm), hb, h.mp.fr f h.d3, h.cc.fr f (fun i q e => h.d4 (e ▸ q)) (fun q => h.d1 q.symm), h.qk.fr f (fun i q e => h.d7 (e ▸ q)), h.d1, h.d2, h.d3, h.d4, h.d5, h.d6, h.d7, h.d8, h.d9, h.ne, ⟨h.ok.n1, h.ok.k1, h.ok.near, h.ok.kept, hok, h.ok.past, h.ok.tn, h.ok.old, h.ok.oldn, h.ok.ord⟩⟩
theorem LM.newCC (h : LM w lb S fb mb q1 q2 q3 q4 ne FC F4) {R' : Nat → Option (Int × Int)} {Fa' : Nat → Bool} {t' : Nat} {FC' : Nat → Prop} (hc : CC w' lb R' Fa' t' FC') (f : Fr FC w w') (hF : ∀ i, FC' i → FC i ∨ w.heap.size ≤ i) (ht : t' = cntR R' S.n) : LM w' lb { S with R := R', Fa := Fa', t := t' } fb mb q1 q2 q3 q4 ne FC' F4 := by
  have l1 := h.blk.lt
  have l2 := h.frs.lt
  have l3 := h.mp.lt
  have l4 := h.qk.lt
  exact ⟨h.blk.fr f h.cc.notl, h.frs.fr f h.d4, h.mp.fr f h.d5, hc, h.qk.fr f (fun i q q' => h.d9 i q' q), h.d1, h.d2, h.d3, fun q => (hF _ q).elim h.d4 (fun z => by omega), fun q => (hF _ q).elim h.d5 (fun z => by omega), h.d6, h.d7, h.d8, fun i q q' => (hF i q).elim (fun z => h.d9 i z q') (fun z => by have := l4 i q'; omega), h.ne, ⟨h.ok.n1, h.ok.k1, h.ok.near, h.ok.kept, h.ok.fr, h.ok.past, ht, h.ok.old, h.ok.oldn, h.ok.ord⟩⟩
theorem LM.newQ (h : LM w lb S fb mb q1 q2 q3 q4 ne FC F4) {l' : List (Nat × Nat)} {F4' : Nat → Prop} (hq : QK w' q4 (oldK l') l'.length F4') (f : Fr F4 w w') (hF : ∀ i, F4' i → F4 i ∨ w.heap.size ≤ i) (ho : ∀ p, p ∈ l' → okN p.1 ∧ p.2 ≤ S.gone) (hn : l'.length ≤ S.gone) (hord : l'.Pairwise fun p q => p.2 < q.2 ∧ ¬ p.1 = q.1) : LM w' lb { S with Old := l' } fb mb q1 q2 q3 q4 ne FC F4' := by
  have l1 := h.blk.lt
  have l2 := h.frs.lt
  have l3 := h.mp.lt
  have l4 := h.cc.lt
  exact ⟨h.blk.fr f h.d6, h.frs.fr f h.d7, h.mp.fr f h.d8, h.cc.fr f h.d9 h.d6, hq, h.d1, h.d2, h.d3, h.d4, h.d5, fun q => (hF _ q).elim h.d6 (fun z => by omega), fun q => (hF _ q).elim h.d7 (fun z => by omega), fun q => (hF _ q).elim h.d8 (fun z => by omega), fun i q q' => (hF i q').elim (fun z => h.d9 i q z) (fun z => by have := l4 i q; omega), h.ne, ⟨h.ok.n1, h.ok.k1, h.ok.near, h.ok.kept, h.ok.fr, h.ok.past, h.ok.tn, ho, hn, hord⟩⟩
theorem LM.newMap (h : LM w lb S fb mb q1 q2 q3 q4 ne FC F4) {P' : Nat → Option (Int × (Nat → Int))} {ne' : Nat} (hm : MpV Try.prog 35 .u32 zeroPast w' mb ne' (psM P')) (f : Fr (fun i => i = mb) w w') (hn : ne' ≤ S.T) (hp : ∀ x p, P' x = some p → 0 ≤ p.1 ∧ p.1 ≤ S.T ∧ ∀ j, 0 ≤ p.2 j ∧ p.2 j ≤ p.1 ∧ p.2 j ≤ p.2 0) : LM w' lb { S with P := P' } fb mb q1 q2 q3 q4 ne' FC F4 :=
  ⟨h.blk.fr f (fun q => h.d2 q.symm), h.frs.fr f (fun q => h.d3 q.symm), hm, h.cc.fr f (fun i q e => h.d5 (e ▸ q)) (fun q => h.d2 q.symm), h.qk.fr f (fun i q e => h.d8 (e ▸ q)), h.d1, h.d2, h.d3, h.d4, h.d5, h.d6, h.d7, h.d8, h.d9, hn, ⟨h.ok.n1, h.ok.k1, h.ok.near, h.ok.kept, h.ok.fr, hp, h.ok.tn, h.ok.old, h.ok.oldn, h.ok.ord⟩⟩
theorem CC.set {R : Nat → Option (Int × Int)} {Fa : Nat → Bool} {t : Nat} {F : Nat → Prop} {c : Nat → Value} (h : CC w lb R Fa t F) (hb : Blk w lb 11 c) {i : Nat} (hi : ¬ i = 6 ∧ ¬ i = 7 ∧ ¬ i = 8) (v : Value) : CC (w.setCell ⟨lb, i, none⟩ v) lb R Fa t F := by
  have hn := h.notl
  obtain ⟨p1, p2, p3, nf, nr, F1, F2, F3, h, ht, hF⟩ := h
  have f : Fr (fun z => z = lb) w (w.setCell ⟨lb, i, none⟩ v) := (Fr.refl (fun z => z = lb) w).setCell (p := ⟨lb, i, none⟩) (.inl rfl) v
  have hb2 := hb.set i v
  have e6 : (w.setCell ⟨lb, i, none⟩ v).cell? ⟨lb, 6, none⟩ = w.cell? ⟨lb, 6, none⟩ := by
    rw [hb2.cell (i := 6) (by omega), hb.cell (i := 6) (by omega), upd_other _ _ (by omega)]
  have e7 : (w.setCell ⟨lb, i, none⟩ v).cell? ⟨lb, 7, none⟩ = w.cell? ⟨lb, 7, none⟩ := by
    rw [hb2.cell (i := 7) (by omega), hb.cell (i := 7) (by omega), upd_other _ _ (by omega)]
  have e8 : (w.setCell ⟨lb, i, none⟩ v).cell? ⟨lb, 8, none⟩ = w.cell? ⟨lb, 8, none⟩ := by
    rw [hb2.cell (i := 8) (by omega), hb.cell (i := 8) (by omega), upd_other _ _ (by omega)]
  exact ⟨p1, p2, p3, nf, nr, F1, F2, F3, ⟨e6.trans h.p6, e7.trans h.p7, e8.trans h.p8, Nat.lt_of_lt_of_le h.lt f.size, h.h1.fr f (fun i q e => h.n1 (e ▸ q)), h.h2.fr f (fun i q e => h.n2 (e ▸ q)), h.h3.fr f (fun i q e => h.n3 (e ▸ q)), h.d12, h.d13, h.d23, h.n1, h.n2, h.n3, h.ok⟩, ht, hF⟩
theorem LM.tick (h : LM w lb S fb mb q1 q2 q3 q4 ne FC F4) {z : Int} (hz : z = ((S.T + 1 : Nat) : Int)) : LM (w.setCell ⟨lb, 3, none⟩ (.int .i64 z)) lb { S with T := S.T + 1 } fb mb q1 q2 q3 q4 ne FC F4 ∧ Fr (fun i => i = lb) w (w.setCell ⟨lb, 3, none⟩ (.int .i64 z)) := by
  subst hz
  have f : Fr (fun z => z = lb) w (w.setCell ⟨lb, 3, none⟩ (.int .i64 ((S.T + 1 : Nat) : Int))) := (Fr.refl (fun z => z = lb) w).setCell (p := ⟨lb, 3, none⟩) (.inl rfl) _
  refine ⟨⟨(h.blk.set 3 _).congr (fun i hi => ?_), h.frs.fr f h.d1, h.mp.fr f h.d2, h.cc.set h.blk (by omega) _, h.qk.fr f (fun i q e => h.d6 (e ▸ q)), h.d1, h.d2, h.d3, h.d4, h.d5, h.d6, h.d7, h.d8, h.d9, Nat.le_succ_of_le h.ne, ⟨h.ok.n1, h.ok.k1, h.ok.near, h.ok.kept, h.ok.fr, fun x p q => ?_, h.ok.tn, h.ok.old, h.ok.oldn, h.ok.ord⟩⟩, f⟩
  · match i, hi with
    | 0, _ | 1, _ | 2, _ | 3, _ | 4, _ | 5, _ | 6, _ | 7, _ | 8, _ | 9, _ | 10, _ => rfl
  · obtain ⟨a, b, c⟩ := h.ok.past x p q
    exact ⟨a, by show p.1 ≤ ((S.T + 1 : Nat) : Int); omega, c⟩
theorem LM.goes (h : LM w lb S fb mb q1 q2 q3 q4 ne FC F4) {z : Int} (hz : z = ((S.gone + 1 : Nat) : Int)) : LM (w.setCell ⟨lb, 10, none⟩ (.int .i64 z)) lb { S with gone := S.gone + 1 } fb mb q1 q2 q3 q4 ne FC F4 ∧ Fr (fun i => i = lb) w (w.setCell ⟨lb, 10, none⟩ (.int .i64 z)) := by
  subst hz
  have f : Fr (fun z => z = lb) w (w.setCell ⟨lb, 10, none⟩ (.int .i64 ((S.gone + 1 : Nat) : Int))) := (Fr.refl (fun z => z = lb) w).setCell (p := ⟨lb, 10, none⟩) (.inl rfl) _
  refine ⟨⟨(h.blk.set 10 _).congr (fun i hi => ?_), h.frs.fr f h.d1, h.mp.fr f h.d2, h.cc.set h.blk (by omega) _, h.qk.fr f (fun i q e => h.d6 (e ▸ q)), h.d1, h.d2, h.d3, h.d4, h.d5, h.d6, h.d7, h.d8, h.d9, h.ne, ⟨h.ok.n1, h.ok.k1, h.ok.near, h.ok.kept, h.ok.fr, h.ok.past, h.ok.tn, fun p q => ⟨(h.ok.old p q).1, Nat.le_succ_of_le (h.ok.old p q).2⟩, Nat.le_succ_of_le h.ok.oldn, h.ok.ord⟩⟩, f⟩
  match i, hi with
  | 0, _ | 1, _ | 2, _ | 3, _ | 4, _ | 5, _ | 6, _ | 7, _ | 8, _ | 9, _ | 10, _ => rfl
theorem frC_full (f : Nat → Bool × Nat) (x : Nat) (b : Bool) : upd (frC f) (x * 2) (.bool b) = frC (updF f x (b, (f x).2)) := by
  funext i
  unfold upd frC updF
  by_cases e : i = x * 2
  · subst e; rw [if_pos rfl, if_pos (by omega), show x * 2 / 2 = x from by omega, if_pos rfl]
  · rw [if_neg e]
    by_cases e2 : i / 2 = x
    · rw [if_neg (by omega), if_neg (by omega), if_pos e2, e2]
    · rw [if_neg e2]
theorem frC_both (f : Nat → Bool × Nat) (x : Nat) (b : Bool) (p : Nat) : upd (upd (frC f) (x * 2) (.bool b)) (x * 2 + 1) (.int .u32 p) = frC (updF f x (b, p)) := by
  funext i
  unfold upd frC updF
  by_cases e : i = x * 2
  · subst e; rw [if_neg (by omega), if_pos rfl, if_pos (by omega), show x * 2 / 2 = x from by omega, if_pos rfl]
  · by_cases e3 : i = x * 2 + 1
    · subst e3; rw [if_pos rfl, if_neg (by omega), show (x * 2 + 1) / 2 = x from by omega, if_pos rfl]
    · rw [if_neg e3, if_neg e, if_neg (show ¬ i / 2 = x by omega)]
set_option maxHeartbeats 1000000 in
theorem empty_calls (h : LM w lb S fb mb q1 q2 q3 q4 ne FC F4) {at' : Nat} (ha : at' < S.n) : Calls Try.prog 36 #[.pointer (some ⟨lb, 0, none⟩), .int .i64 at'] w fun e w' => e = .returned (.tuple #[]) ∧
    LM w' lb { S with fr := updF S.fr at' (false, (S.fr at').2), R := updK S.R at' none, t := lessN S.t (S.R at').isSome } fb mb q1 q2 q3 q4 ne FC F4 ∧ Fr (fun i => i = fb ∨ FC i) w w' := by
  have hx : okN at' := by have := h.ok.n1; unfold okN; omega
  have fA : Fr (fun i => i = fb) w (w.setCell ⟨fb, at' * 2, none⟩ (.bool false)) := (Fr.refl (fun z => z = fb) w).setCell (p := ⟨fb, at' * 2, none⟩) (.inl rfl) _
  have hb := h.frs.set (at' * 2) (.bool false)
  rw [frC_full] at hb
  have h2 := h.newFr hb fA (fun i => by
    unfold updF
    split
    · exact h.ok.fr at'
    · exact h.ok.fr i)
  have HC := Lib.hid (cc_drop h2.cc hx)
  have H2 := Lib.hid h2
  have HFA := Lib.hid fA
  have c4 : w.cell? ⟨lb, 4, none⟩ = some (.slice (some ⟨fb, 0, none⟩) S.n S.n) := h.ce 4 (by omega)
  have lt := h.blk.lt
  have lf := h.frs.lt
  have hfu := h.full ha
  have fz := h.frs.frozen (at' * 2)
  have h1 : (at' : Int) < S.n := by omega
  have h0 : 0 ≤ (at' : Int) := by omega
  have HTN := Lib.hid h.ok.tn
  have HAT : Hid (at' < S.n) := ha
  clear h h2 hb fA hx
  generalize (S.fr at').1 = fu at *
  go_enter Try.func36, Try.ntmps36
  go_wp2_with fail
  refine HC.out.mono ?_
  rintro e w1 ⟨rfl, hc, f1⟩
  have h3 := H2.out.newCC hc f1 (fun i q => .inl q) (by show lessN S.t (S.R at').isSome = cntR (updK S.R at' none) S.n; rw [cntR_drop _ HAT.out, ← HTN.out])
  have H3 := Lib.hid h3
  have HF1 := Lib.hid f1
  clear h3 f1 hc
  go_wp2
  go_returns
  exact ⟨rfl, H3.out, (HFA.out.mono (fun _ q => .inl q)).trans HF1.out (fun _ q => .inl (.inr q))⟩
end
end Go.Proofs.Ytbnckhkamebibaa

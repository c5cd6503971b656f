/-
  Pro in memory: a head of ten cells, the rows of entries, the entries, the frames, the ghosts by page; what the clock's calls do there.
-/
import Derived.Test.YtoainbdkhhblbaaK22
import Derived.Deep.RegionHeld3
import Derived.Deep.RegionWith
import Derived.StillTailTactics
import Derived.IntWalk
import Derived.Deep.Cut
import Derived.Test.YtoainbdkhhblbaaK04
import Derived.Test.YtoainbdkhhblbaaK23
namespace Go.Proofs.Ytoainbdkhhblbaa
open Go.RowKit Go.Maps
set_option linter.unusedVariables false
set_option linter.unusedSimpArgs false

/-- Its blocks: the head's own is not among them. -/
structure AP where
  rb : Nat
  eb : Nat
  fb : Nat
  mb : Nat
  FR : Nat → Prop
  lab : Nat → Nat
structure LP (b : Nat) (A : AP) : Prop where
  l0 : A.lab b = 0
  l1 : A.lab A.eb = 1
  l2 : A.lab A.fb = 2
  l3 : A.lab A.mb = 3
  l4 : ∀ i, A.FR i → A.lab i = 4
/-- What lies there, as it lies there. -/
structure Raw where
  ids : List Nat
  sp : List Nat
  h : Nat → Nat
  e : Nat → En
  v : Nat → Bool
  goal : Nat
  hot : Nat
  size : Nat
  fm : Nat → Int
  mp : Int → Option Nat
  mc : Nat
def prH (A : AP) (n : Nat) (h : Nat → Nat) (goal hot size : Nat) : Nat → Value
  | 0 => .pointer (some ⟨A.rb, 0, none⟩)
  | 1 => .slice (some ⟨A.eb, 0, none⟩) (2 * n) (2 * n)
  | 2 => .int .i64 (h 0 : Nat)
  | 3 => .int .i64 (h 1 : Nat)
  | 4 => .int .i64 (h 2 : Nat)
  | 5 => .slice (some ⟨A.fb, 0, none⟩) n n
  | 6 => .map (some A.mb)
  | 7 => .int .i64 goal
  | 8 => .int .i64 hot
  | 9 => .int .i64 size
  | _ => .int .i64 0
def enF (e : Nat → En) (v : Nat → Bool) (i : Nat) : Value :=
  if i % 6 = 0 then .int .u32 ((e (i / 6)).pg : Nat) else if i % 6 = 1 then .int .i64 (e (i / 6)).fr else if i % 6 = 2 then .bool (e (i / 6)).hot
  else if i % 6 = 3 then .bool (e (i / 6)).ref else if i % 6 = 4 then .bool (e (i / 6)).test else .bool (v (i / 6))
def fmF (fm : Nat → Int) (i : Nat) : Value := .int .i64 (fm i)
def mpF (m : Int → Option Nat) (z : Int) : Option Value := (m z).map fun (x : Nat) => Value.int .i64 x
def updP (m : Int → Option Nat) (x : Int) (y : Option Nat) : Int → Option Nat := fun z => if z = x then y else m z
theorem mpF_upd (m : Int → Option Nat) (x : Int) (y : Option Nat) : updV (mpF m) x (y.map fun (x : Nat) => Value.int .i64 x) = mpF (updP m x y) := by
  funext z
  unfold updV mpF updP
  split <;> rfl
theorem MVg : MV Try.prog 56 34 3 .u32 (.int .i64 0) := ⟨Try.underlying56, Try.underlying34, fun w => by kernel_rfl⟩
structure PC (w : World) (b n : Nat) (A : AP) (r : Raw) : Prop where
  hd : Blk w b 10 (prH A n r.h r.goal r.hot r.size)
  rr : RR w A.rb (2 * n) 2 [r.ids, r.sp] A.FR
  en : Blk w A.eb (2 * n * 6) (enF r.e r.v)
  fb : Blk w A.fb n (fmF r.fm)
  mp : MpV Try.prog 34 .u32 (.int .i64 0) w A.mb r.mc (mpF r.mp)
  lb : LP b A
  hn : n ≤ 65535
/-- All its blocks. -/
def FPr (A : AP) (b : Nat) : Nat → Prop := fun i => i = b ∨ i = A.eb ∨ i = A.fb ∨ i = A.mb ∨ A.FR i
/-- What the clock may change. -/
def FCk (A : AP) (b : Nat) : Nat → Prop := fun i => i = b ∨ A.FR i

/-! ### The cells -/
theorem en0 (e : Nat → En) (v : Nat → Bool) (i : Nat) : enF e v (i * 6) = .int .u32 ((e i).pg : Nat) := by
  have h1 : i * 6 % 6 = 0 := by omega
  have h2 : i * 6 / 6 = i := by omega
  simp [enF, h1, h2]
theorem en1 (e : Nat → En) (v : Nat → Bool) (i : Nat) : enF e v (i * 6 + 1) = .int .i64 (e i).fr := by
  have h1 : (i * 6 + 1) % 6 = 1 := by omega
  have h2 : (i * 6 + 1) / 6 = i := by omega
  simp [enF, h1, h2]
theorem en2 (e : Nat → En) (v : Nat → Bool) (i : Nat) : enF e v (i * 6 + 2) = .bool (e i).hot := by
  have h1 : (i * 6 + 2) % 6 = 2 := by omega
  have h2 : (i * 6 + 2) / 6 = i := by omega
  simp [enF, h1, h2]
theorem en3 (e : Nat → En) (v : Nat → Bool) (i : Nat) : enF e v (i * 6 + 3) = .bool (e i).ref := by
  have h1 : (i * 6 + 3) % 6 = 3 := by omega
  have h2 : (i * 6 + 3) / 6 = i := by omega
  simp [enF, h1, h2]
theorem en4 (e : Nat → En) (v : Nat → Bool) (i : Nat) : enF e v (i * 6 + 4) = .bool (e i).test := by
  have h1 : (i * 6 + 4) % 6 = 4 := by omega
  have h2 : (i * 6 + 4) / 6 = i := by omega
  simp [enF, h1, h2]
theorem en5 (e : Nat → En) (v : Nat → Bool) (i : Nat) : enF e v (i * 6 + 5) = .bool (v i) := by
  have h1 : (i * 6 + 5) % 6 = 5 := by omega
  have h2 : (i * 6 + 5) / 6 = i := by omega
  simp [enF, h1, h2]
/-- A cell of an entry turned. -/
theorem en_upd {e e' : Nat → En} {v v' : Nat → Bool} {i k : Nat} {u : Value} (hk : k < 6) (ho : ∀ j, ¬ j = i → e' j = e j ∧ v' j = v j) (hs : ∀ j, j < 6 → ¬ j = k → enF e' v' (i * 6 + j) = enF e v (i * 6 + j)) (hu : enF e' v' (i * 6 + k) = u) : upd (enF e v) (i * 6 + k) u = enF e' v' := by
  funext j
  by_cases e1 : j = i * 6 + k
  · subst e1; rw [upd_same, hu]
  · rw [upd_other _ _ e1]
    by_cases e2 : j / 6 = i
    · have : j = i * 6 + j % 6 := by omega
      rw [this]
      exact (hs (j % 6) (by omega) (by omega)).symm
    · obtain ⟨q1, q2⟩ := ho (j / 6) e2
      unfold enF
      rw [q1, q2]
theorem en_fr (e : Nat → En) (v : Nat → Bool) (i : Nat) (z : Int) : upd (enF e v) (i * 6 + 1) (.int .i64 z) = enF (upd e i { e i with fr := z }) v :=
  en_upd (by omega) (fun j q => ⟨upd_other _ _ q, rfl⟩) (fun j h1 h2 => by
    match j, h1, h2 with
    | 0, _, _ => rw [Nat.add_zero, en0, en0, upd_same]
    | 2, _, _ => rw [en2, en2, upd_same]
    | 3, _, _ => rw [en3, en3, upd_same]
    | 4, _, _ => rw [en4, en4, upd_same]
    | 5, _, _ => rw [en5, en5]) (by rw [en1, upd_same])
theorem en_hot (e : Nat → En) (v : Nat → Bool) (i : Nat) (z : Bool) : upd (enF e v) (i * 6 + 2) (.bool z) = enF (upd e i { e i with hot := z }) v :=
  en_upd (by omega) (fun j q => ⟨upd_other _ _ q, rfl⟩) (fun j h1 h2 => by
    match j, h1, h2 with
    | 0, _, _ => rw [Nat.add_zero, en0, en0, upd_same]
    | 1, _, _ => rw [en1, en1, upd_same]
    | 3, _, _ => rw [en3, en3, upd_same]
    | 4, _, _ => rw [en4, en4, upd_same]
    | 5, _, _ => rw [en5, en5]) (by rw [en2, upd_same])
theorem en_ref (e : Nat → En) (v : Nat → Bool) (i : Nat) (z : Bool) : upd (enF e v) (i * 6 + 3) (.bool z) = enF (upd e i { e i with ref := z }) v :=
  en_upd (by omega) (fun j q => ⟨upd_other _ _ q, rfl⟩) (fun j h1 h2 => by
    match j, h1, h2 with
    | 0, _, _ => rw [Nat.add_zero, en0, en0, upd_same]
    | 1, _, _ => rw [en1, en1, upd_same]
    | 2, _, _ => rw [en2, en2, upd_same]
    | 4, _, _ => rw [en4, en4, upd_same]
    | 5, _, _ => rw [en5, en5]) (by rw [en3, upd_same])
theorem en_test (e : Nat → En) (v : Nat → Bool) (i : Nat) (z : Bool) : upd (enF e v) (i * 6 + 4) (.bool z) = enF (upd e i { e i with test := z }) v :=
  en_upd (by omega) (fun j q => ⟨upd_other _ _ q, rfl⟩) (fun j h1 h2 => by
    match j, h1, h2 with
    | 0, _, _ => rw [Nat.add_zero, en0, en0, upd_same]
    | 1, _, _ => rw [en1, en1, upd_same]
    | 2, _, _ => rw [en2, en2, upd_same]
    | 3, _, _ => rw [en3, en3, upd_same]
    | 5, _, _ => rw [en5, en5]) (by rw [en4, upd_same])
theorem en_v (e : Nat → En) (v : Nat → Bool) (i : Nat) (z : Bool) : upd (enF e v) (i * 6 + 5) (.bool z) = enF e (upd v i z) :=
  en_upd (by omega) (fun j q => ⟨rfl, upd_other _ _ q⟩) (fun j h1 h2 => by
    match j, h1, h2 with
    | 0, _, _ => rw [Nat.add_zero, en0, en0]
    | 1, _, _ => rw [en1, en1]
    | 2, _, _ => rw [en2, en2]
    | 3, _, _ => rw [en3, en3]
    | 4, _, _ => rw [en4, en4]
    | j + 5, h1, h2 => exfalso; omega) (by rw [en5, upd_same])
theorem fm_upd (fm : Nat → Int) (i : Nat) (z : Int) : upd (fmF fm) i (.int .i64 z) = fmF (upd fm i z) := by
  funext j
  by_cases q : j = i
  · subst q; rw [upd_same]; unfold fmF; rw [upd_same]
  · rw [upd_other _ _ q]; unfold fmF; rw [upd_other _ _ q]
theorem prH_h {A : AP} {n : Nat} (h : Nat → Nat) (g o s : Nat) (j z : Nat) (hj : j < 3) : upd (prH A n h g o s) (2 + j) (.int .i64 (z : Nat)) = prH A n (upd h j z) g o s := by
  funext i
  match j, hj with
  | 0, _ => match i with
    | 0 => rfl | 1 => rfl | 2 => rfl | 3 => rfl | 4 => rfl | 5 => rfl | 6 => rfl | 7 => rfl | 8 => rfl | 9 => rfl
    | i + 10 => simp [upd, prH]
  | 1, _ => match i with
    | 0 => rfl | 1 => rfl | 2 => rfl | 3 => rfl | 4 => rfl | 5 => rfl | 6 => rfl | 7 => rfl | 8 => rfl | 9 => rfl
    | i + 10 => simp [upd, prH]
  | 2, _ => match i with
    | 0 => rfl | 1 => rfl | 2 => rfl | 3 => rfl | 4 => rfl | 5 => rfl | 6 => rfl | 7 => rfl | 8 => rfl | 9 => rfl
    | i + 10 => simp [upd, prH]
theorem prH_goal {A : AP} {n : Nat} (h : Nat → Nat) (g o s z : Nat) : upd (prH A n h g o s) 7 (.int .i64 (z : Nat)) = prH A n h z o s := by
  funext i
  match i with
  | 0 => rfl | 1 => rfl | 2 => rfl | 3 => rfl | 4 => rfl | 5 => rfl | 6 => rfl | 7 => rfl | 8 => rfl | 9 => rfl
  | i + 10 => simp [upd, prH]
theorem prH_hot {A : AP} {n : Nat} (h : Nat → Nat) (g o s z : Nat) : upd (prH A n h g o s) 8 (.int .i64 (z : Nat)) = prH A n h g z s := by
  funext i
  match i with
  | 0 => rfl | 1 => rfl | 2 => rfl | 3 => rfl | 4 => rfl | 5 => rfl | 6 => rfl | 7 => rfl | 8 => rfl | 9 => rfl
  | i + 10 => simp [upd, prH]
theorem prH_size {A : AP} {n : Nat} (h : Nat → Nat) (g o s z : Nat) : upd (prH A n h g o s) 9 (.int .i64 (z : Nat)) = prH A n h g o z := by
  funext i
  match i with
  | 0 => rfl | 1 => rfl | 2 => rfl | 3 => rfl | 4 => rfl | 5 => rfl | 6 => rfl | 7 => rfl | 8 => rfl | 9 => rfl
  | i + 10 => simp [upd, prH]

section
variable {w w' : World} {b n : Nat} {A : AP} {r : Raw}
theorem LP.ne (h : LP b A) : (¬ A.eb = b) ∧ (¬ A.fb = b) ∧ (¬ A.mb = b) ∧ (¬ A.eb = A.fb) ∧ (¬ A.eb = A.mb) ∧ (¬ A.fb = A.mb) ∧ (∀ i, A.FR i → ¬ i = b ∧ ¬ i = A.eb ∧ ¬ i = A.fb ∧ ¬ i = A.mb) := by
  obtain ⟨l0, l1, l2, l3, l4⟩ := h
  refine ⟨fun e => ?_, fun e => ?_, fun e => ?_, fun e => ?_, fun e => ?_, fun e => ?_, fun i hi => ⟨fun e => ?_, fun e => ?_, fun e => ?_, fun e => ?_⟩⟩
  · rw [e] at l1; omega
  · rw [e] at l2; omega
  · rw [e] at l3; omega
  · rw [e] at l1; omega
  · rw [e] at l1; omega
  · rw [e] at l2; omega
  · have := l4 i hi; subst e; omega
  · have := l4 i hi; subst e; omega
  · have := l4 i hi; subst e; omega
  · have := l4 i hi; subst e; omega
theorem PC.fr (h : PC w b n A r) {G : Nat → Prop} (f : Fr G w w') (hG : ∀ i, FPr A b i → ¬ G i) : PC w' b n A r :=
  ⟨h.hd.fr f (hG _ (.inl rfl)), h.rr.fr f (fun i q => hG i (.inr (.inr (.inr (.inr q))))), h.en.fr f (hG _ (.inr (.inl rfl))), h.fb.fr f (hG _ (.inr (.inr (.inl rfl)))), h.mp.fr f (hG _ (.inr (.inr (.inr (.inl rfl))))), h.lb, h.hn⟩
theorem PC.fr0 (h : PC w b n A r) (f : Fr NoF w w') : PC w' b n A r := h.fr f (fun _ _ q => q)
theorem PC.lt (h : PC w b n A r) : ∀ i, FPr A b i → i < w.heap.size := by
  rintro i (rfl | rfl | rfl | rfl | q)
  · exact h.hd.lt
  · exact h.en.lt
  · exact h.fb.lt
  · exact h.mp.lt
  · exact h.rr.lt i q
theorem PC.c (h : PC w b n A r) (i : Nat) (hi : i < 10) : w.cell? ⟨b, i, none⟩ = some (prH A n r.h r.goal r.hot r.size i) := h.hd.cell hi
theorem PC.ce (h : PC w b n A r) {x : Nat} (hx : x < 2 * n) : w.cell? ⟨A.eb, x * 6, none⟩ = some (.int .u32 ((r.e x).pg : Nat)) ∧ w.cell? ⟨A.eb, x * 6 + 1, none⟩ = some (.int .i64 (r.e x).fr) ∧ w.cell? ⟨A.eb, x * 6 + 2, none⟩ = some (.bool (r.e x).hot) ∧ w.cell? ⟨A.eb, x * 6 + 3, none⟩ = some (.bool (r.e x).ref) ∧ w.cell? ⟨A.eb, x * 6 + 4, none⟩ = some (.bool (r.e x).test) ∧ w.cell? ⟨A.eb, x * 6 + 5, none⟩ = some (.bool (r.v x)) := by
  refine ⟨?_, ?_, ?_, ?_, ?_, ?_⟩
  · rw [h.en.cell (by omega), en0]
  · rw [h.en.cell (by omega), en1]
  · rw [h.en.cell (by omega), en2]
  · rw [h.en.cell (by omega), en3]
  · rw [h.en.cell (by omega), en4]
  · rw [h.en.cell (by omega), en5]
theorem PC.cf (h : PC w b n A r) {f : Nat} (hf : f < n) : w.cell? ⟨A.fb, f, none⟩ = some (.int .i64 (r.fm f)) := h.fb.cell hf
theorem PC.lists (h : PC w b n A r) : r.ids.Nodup ∧ r.sp.Nodup ∧ (∀ x ∈ r.ids, x < 2 * n) ∧ (∀ x ∈ r.sp, x < 2 * n) ∧ ∀ x ∈ r.ids, ¬ x ∈ r.sp := h.rr.row2
/-! ### A store -/
theorem PC.setHead (h : PC w b n A r) {i : Nat} {u : Value} {r' : Raw} (e : upd (prH A n r.h r.goal r.hot r.size) i u = prH A n r'.h r'.goal r'.hot r'.size) (q : r' = { r with h := r'.h, goal := r'.goal, hot := r'.hot, size := r'.size }) : PC (w.setCell ⟨b, i, none⟩ u) b n A r' := by
  obtain ⟨n1, n2, n3, n4, n5, n6, n7⟩ := h.lb.ne
  have f : Fr (fun k => k = b) w (w.setCell ⟨b, i, none⟩ u) := (Fr.refl (fun k => k = b) w).setCell (p := ⟨b, i, none⟩) (.inl rfl) _
  rw [q]
  exact ⟨by rw [← e]; exact h.hd.set _ _, h.rr.fr f (fun i hi => (n7 i hi).1), h.en.fr f n1, h.fb.fr f n2, h.mp.fr f n3, h.lb, h.hn⟩
theorem PC.setEn (h : PC w b n A r) {i : Nat} {u : Value} {r' : Raw} (e : upd (enF r.e r.v) i u = enF r'.e r'.v) (q : r' = { r with e := r'.e, v := r'.v }) : PC (w.setCell ⟨A.eb, i, none⟩ u) b n A r' := by
  obtain ⟨n1, n2, n3, n4, n5, n6, n7⟩ := h.lb.ne
  have f : Fr (fun k => k = A.eb) w (w.setCell ⟨A.eb, i, none⟩ u) := (Fr.refl (fun k => k = A.eb) w).setCell (p := ⟨A.eb, i, none⟩) (.inl rfl) _
  rw [q]
  exact ⟨h.hd.fr f (fun q => n1 q.symm), h.rr.fr f (fun i hi => (n7 i hi).2.1), by rw [← e]; exact h.en.set _ _, h.fb.fr f (fun q => n4 q.symm), h.mp.fr f (fun q => n5 q.symm), h.lb, h.hn⟩
theorem PC.setFm (h : PC w b n A r) {i : Nat} (z : Int) : PC (w.setCell ⟨A.fb, i, none⟩ (.int .i64 z)) b n A { r with fm := upd r.fm i z } := by
  obtain ⟨n1, n2, n3, n4, n5, n6, n7⟩ := h.lb.ne
  have f : Fr (fun k => k = A.fb) w (w.setCell ⟨A.fb, i, none⟩ (.int .i64 z)) := (Fr.refl (fun k => k = A.fb) w).setCell (p := ⟨A.fb, i, none⟩) (.inl rfl) _
  exact ⟨h.hd.fr f (fun q => n2 q.symm), h.rr.fr f (fun i hi => (n7 i hi).2.2.1), h.en.fr f n4, by rw [← fm_upd]; exact h.fb.set _ _, h.mp.fr f (fun q => n6 q.symm), h.lb, h.hn⟩
theorem PC.rows (h : PC w b n A r) {L M : List Nat} (f : Fr A.FR w w') (hr : RR w' A.rb (2 * n) 2 [L, M] A.FR) : PC w' b n A { r with ids := L, sp := M } := by
  obtain ⟨n1, n2, n3, n4, n5, n6, n7⟩ := h.lb.ne
  exact ⟨h.hd.fr f (fun q => (n7 _ q).1 rfl), hr, h.en.fr f (fun q => (n7 _ q).2.1 rfl), h.fb.fr f (fun q => (n7 _ q).2.2.1 rfl), h.mp.fr f (fun q => (n7 _ q).2.2.2 rfl), h.lb, h.hn⟩

/-! ### The clock -/
/-- The entry behind x. -/
def nxt (l : List Nat) (x : Nat) : Nat := match l[l.idxOf x + 1]? with
  | some y => y
  | none => l.head?.getD 0
theorem ck_len (h : PC w b n A r) : Calls Try.prog 38 #[.pointer (some ⟨b, 0, none⟩)] w fun e w' => e = .returned (.int .i64 (r.ids.length : Nat)) ∧ w = w' := by
  have c0 : w.cell? ⟨b, 0, none⟩ = some (.pointer (some ⟨A.rb, 0, none⟩)) := h.c 0 (by omega)
  have HL := Len_all h.rr 0
  rw [show rowZ [r.ids, r.sp] 0 = r.ids from rfl] at HL
  have HL := Lib.hid HL
  clear h
  go_enter Try.func38, Try.ntmps38
  go_wp2_with (go_at_call 63; refine HL.out.mono ?_; rintro e w' ⟨rfl, rfl⟩)
  go_returns
  exact ⟨rfl, rfl⟩
theorem nextZ2 {l m : List Nat} {x : Nat} (hx : x ∈ l) : nextZ [l, m] (x : Int) = l[l.idxOf x + 1]? := by
  unfold nextZ
  rw [ixZ_nat, rowIx2, if_pos hx]
  simp
theorem ck_next (h : PC w b n A r) {x : Nat} (hx : x ∈ r.ids) : Calls Try.prog 44 #[.pointer (some ⟨b, 0, none⟩), .int .i64 x] w fun e w' => e = .returned (.int .i64 (nxt r.ids x : Nat)) ∧ ∃ d, w.drewN d = w' := by
  have c0 : w.cell? ⟨b, 0, none⟩ = some (.pointer (some ⟨A.rb, 0, none⟩)) := h.c 0 (by omega)
  have HN := Next_all h.rr (x : Int)
  rw [nextZ2 hx] at HN
  unfold nxt
  cases e : r.ids[r.ids.idxOf x + 1]? with
  | some y =>
    rw [e] at HN
    simp only [ixI] at HN
    have HN := Lib.hid HN
    clear h hx e
    go_enter Try.func44, Try.ntmps44
    go_wp2_with (go_at_call 68; refine HN.out.mono ?_; rintro e w' ⟨rfl, rfl⟩)
    go_returns
    exact ⟨rfl, 0, rfl⟩
  | none =>
    rw [e] at HN
    have HF := First_all h.rr 0
    rw [show rowZ [r.ids, r.sp] 0 = r.ids from rfl] at HF
    have hh : ixI r.ids.head? = ((r.ids.head?.getD 0 : Nat) : Int) := by
      cases el : r.ids with
      | nil => rw [el] at hx; cases hx
      | cons a t => rfl
    rw [hh] at HF
    simp only [ixI] at HN
    have HN := Lib.hid HN
    have HF := Lib.hid HF
    clear h hx e hh
    go_enter Try.func44, Try.ntmps44
    go_wp2_with (first
      | (go_at_call 68; refine HN.out.mono ?_; rintro e w' ⟨rfl, rfl⟩)
      | (go_at_call 59; refine HF.out.mono ?_; rintro e w' ⟨rfl, d, rfl⟩))
    go_returns
    exact ⟨rfl, _, rfl⟩
def Raw.move (r : Raw) (j : Nat) : Raw := { r with h := upd r.h j (nxt r.ids (r.h j)) }
theorem PC.hand (h : PC w b n A r) {j : Nat} (hj : j < 3) : w.cell? ⟨b, 2 + j, none⟩ = some (.int .i64 (r.h j : Nat)) := by
  rw [h.c (2 + j) (by omega)]
  match j, hj with
  | 0, _ => rfl
  | 1, _ => rfl
  | 2, _ => rfl
set_option maxHeartbeats 1000000 in
theorem ck_move (h : PC w b n A r) {j : Nat} (hj : j < 3) (hx : r.h j ∈ r.ids) : Calls Try.prog 41 #[.pointer (some ⟨b, 0, none⟩), .int .i64 j] w fun e w' => e = .returned (.tuple #[]) ∧ PC w' b n A (r.move j) ∧ Fr (fun i => i = b) w w' := by
  have ch := h.hand hj
  have fz : ∀ W, Fr NoF w W → W.frozen? ⟨b, 2 + j, none⟩ = false := fun W g => (h.hd.fr g id).frozen _
  have ct : ∀ W, Fr NoF w W → ∃ v, W.cell? ⟨b, 2 + j, none⟩ = some v := fun W g => ⟨_, (h.hd.fr g id).cell (by omega)⟩
  have HN := Lib.hid (fun W (g : Fr NoF w W) => ck_next (h.fr0 g) hx)
  have HK : Hid (∀ d, PC ((w.drewN d).setCell ⟨b, 2 + j, none⟩ (.int .i64 (nxt r.ids (r.h j) : Nat))) b n A (r.move j) ∧ Fr (fun i => i = b) w ((w.drewN d).setCell ⟨b, 2 + j, none⟩ (.int .i64 (nxt r.ids (r.h j) : Nat)))) := fun d => by
    have h1 : PC (w.drewN d) b n A r := h.fr0 ((Fr.refl NoF w).drewN d)
    exact ⟨h1.setHead (r' := r.move j) (prH_h _ _ _ _ _ _ hj) rfl, ((Fr.refl (fun i => i = b) w).drewN d).setCell (p := ⟨b, 2 + j, none⟩) (.inl rfl) _⟩
  have hb := h.hd.lt
  have HH := Lib.hid h.hd
  clear h hx fz ct
  generalize nxt r.ids (r.h j) = z at *
  generalize hxx : r.h j = x at *
  match j, hj with
  | 0, _ =>
    have fz0 : w.frozen? ⟨b, 2, none⟩ = false := HH.out.frozen _
    go_enter Try.func41, Try.ntmps41
    go_region_with (go_at_call 44; (with_reducible refine (HN.out _ (by repeat (first | exact Fr.refl NoF _ | apply Fr.drew | apply Fr.drewN))).mono ?_); rintro e w' ⟨rfl, d, rfl⟩)
    all_goals go_wp2
    all_goals go_returns
    all_goals exact ⟨rfl, HK.out _⟩
  | 1, _ =>
    have fz0 : w.frozen? ⟨b, 3, none⟩ = false := HH.out.frozen _
    go_enter Try.func41, Try.ntmps41
    go_region_with (go_at_call 44; (with_reducible refine (HN.out _ (by repeat (first | exact Fr.refl NoF _ | apply Fr.drew | apply Fr.drewN))).mono ?_); rintro e w' ⟨rfl, d, rfl⟩)
    all_goals go_wp2
    all_goals go_returns
    all_goals exact ⟨rfl, HK.out _⟩
  | 2, _ =>
    have fz0 : w.frozen? ⟨b, 4, none⟩ = false := HH.out.frozen _
    go_enter Try.func41, Try.ntmps41
    go_region_with (go_at_call 44; (with_reducible refine (HN.out _ (by repeat (first | exact Fr.refl NoF _ | apply Fr.drew | apply Fr.drewN))).mono ?_); rintro e w' ⟨rfl, d, rfl⟩)
    all_goals go_wp2
    all_goals go_returns
    all_goals exact ⟨rfl, HK.out _⟩

def Raw.mid (r : Raw) (x q : Nat) : Raw := { r with h := fun j => if j < q ∧ r.h j = x then nxt r.ids x else r.h j }
def Raw.leave (r : Raw) (x : Nat) : Raw := { r with h := fun j => if r.h j = x then nxt r.ids x else r.h j, ids := awayN r.ids x }
theorem mid_yes {x q : Nat} (e : r.h q = x) : (r.mid x q).move q = r.mid x (q + 1) := by
  unfold Raw.mid Raw.move
  simp only [Nat.lt_irrefl, false_and, if_false]
  congr 1
  funext j
  by_cases ej : j = q
  · subst ej; rw [upd_same, if_pos ⟨by omega, e⟩, e]
  · rw [upd_other _ _ ej]
    by_cases e1 : j < q ∧ r.h j = x
    · rw [if_pos e1, if_pos ⟨by omega, e1.2⟩]
    · rw [if_neg e1, if_neg (fun c => e1 ⟨by omega, c.2⟩)]
theorem mid_no {x q : Nat} (e : ¬ r.h q = x) : r.mid x (q + 1) = r.mid x q := by
  unfold Raw.mid
  congr 1
  funext j
  by_cases e1 : j < q ∧ r.h j = x
  · rw [if_pos e1, if_pos ⟨by omega, e1.2⟩]
  · rw [if_neg e1, if_neg (fun c => e1 ⟨by have : ¬ j = q := (fun q' => e (q' ▸ c.2)); omega, c.2⟩)]
set_option maxRecDepth 100000 in
set_option maxHeartbeats 1000000 in
theorem ck_leave (h : PC w b n A r) {x : Nat} (hx : x ∈ r.ids) : Calls Try.prog 75 #[.pointer (some ⟨b, 0, none⟩), .int .i64 x] w fun e w' => e = .returned (.tuple #[]) ∧ PC w' b n A (r.leave x) ∧ Fr (FCk A b) w w' := by
  have ch0 : w.cell? ⟨b, 2, none⟩ = some (.int .i64 (r.h 0 : Nat)) := h.hand (j := 0) (by omega)
  have ch1 : w.cell? ⟨b, 3, none⟩ = some (.int .i64 (r.h 1 : Nat)) := h.hand (j := 1) (by omega)
  have ch2 : w.cell? ⟨b, 4, none⟩ = some (.int .i64 (r.h 2 : Nat)) := h.hand (j := 2) (by omega)
  have H := Lib.hid h
  have HX := Lib.hid hx
  have HS : Hid (∀ q, q < 3 → ∀ w1, PC w1 b n A (r.mid x q) → r.h q = x → Calls Try.prog 41 #[.pointer (some ⟨b, 0, none⟩), .int .i64 q] w1 fun e w' => e = .returned (.tuple #[]) ∧ PC w' b n A (r.mid x (q + 1)) ∧ Fr (fun i => i = b) w1 w') := by
    intro q hq w1 h1 e
    have hm : (r.mid x q).h q = x := by unfold Raw.mid; simp [e]
    have := ck_move h1 hq (by rw [hm]; exact hx)
    rw [mid_yes e] at this
    exact this
  have HS0 : Hid (∀ w1, PC w1 b n A (r.mid x 0) → r.h 0 = x → Calls Try.prog 41 #[.pointer (some ⟨b, 0, none⟩), .int .i64 0] w1 fun e w' => e = .returned (.tuple #[]) ∧ PC w' b n A (r.mid x 1) ∧ Fr (fun i => i = b) w1 w') := fun w1 => HS.out 0 (by omega) w1
  have HS1 : Hid (∀ w1, PC w1 b n A (r.mid x 1) → r.h 1 = x → Calls Try.prog 41 #[.pointer (some ⟨b, 0, none⟩), .int .i64 1] w1 fun e w' => e = .returned (.tuple #[]) ∧ PC w' b n A (r.mid x 2) ∧ Fr (fun i => i = b) w1 w') := fun w1 => HS.out 1 (by omega) w1
  have HS2 : Hid (∀ w1, PC w1 b n A (r.mid x 2) → r.h 2 = x → Calls Try.prog 41 #[.pointer (some ⟨b, 0, none⟩), .int .i64 2] w1 fun e w' => e = .returned (.tuple #[]) ∧ PC w' b n A (r.mid x 3) ∧ Fr (fun i => i = b) w1 w') := fun w1 => HS.out 2 (by omega) w1
  clear h hx HS
  generalize h0e : r.h 0 = h0 at *
  generalize h1e : r.h 1 = h1 at *
  generalize h2e : r.h 2 = h2 at *
  have H0E := Lib.hid h0e
  have H1E := Lib.hid h1e
  have H2E := Lib.hid h2e
  clear h0e h1e h2e
  have i0 : ∀ w, (Instr.index 43 (.agg #[.int .i64 h0, .int .i64 h1, .int .i64 h2]) (.int .i64 0)).run Try.prog w = .ok (.int .i64 h0) w := fun _ => by kernel_rfl
  have i1 : ∀ w, (Instr.index 43 (.agg #[.int .i64 h0, .int .i64 h1, .int .i64 h2]) (.int .i64 1)).run Try.prog w = .ok (.int .i64 h1) w := fun _ => by kernel_rfl
  have i2 : ∀ w, (Instr.index 43 (.agg #[.int .i64 h0, .int .i64 h1, .int .i64 h2]) (.int .i64 2)).run Try.prog w = .ok (.int .i64 h2) w := fun _ => by kernel_rfl
  go_enter Try.func75, Try.ntmps75
  go_wp2_with fail
  go_loopw [10] (fun k wr => ∃ (q : Nat) (z : Int), k = .int .i64 z ∧ (q = 0 ∧ z = 0 ∨ q = 1 ∧ z = 1 ∨ q = 2 ∧ z = 2 ∨ q = 3 ∧ z = 3) ∧ PC wr b n A (r.mid x q) ∧ Fr (fun i => i = b) w wr) (fun k _ => 3 - (intOf k).toNat)
  case atStart => exact ⟨0, 0, rfl, .inl ⟨rfl, rfl⟩, by have := H.out; unfold Raw.mid; simpa using this, Fr.refl _ _⟩
  case round =>
    obtain ⟨q, z, rfl, hz, h4, f4⟩ := hrel
    have H4 := Lib.hid h4
    have F4 := Lib.hid f4
    clear h4 f4 ch0 ch1 ch2
    obtain ⟨rfl, rfl⟩ | ⟨rfl, rfl⟩ | ⟨rfl, rfl⟩ | ⟨rfl, rfl⟩ := hz
    rotate_right
    · have c0 : wr.cell? ⟨b, 0, none⟩ = some (.pointer (some ⟨A.rb, 0, none⟩)) := H4.out.c 0 (by omega)
      have HO := Lib.hid (Out_all H4.out.rr (x : Int))
      go_wp2_with fail
      refine HO.out.mono ?_
      clear HO
      rintro e w5 ⟨rfl, hR, f5⟩
      have key : PC w5 b n A (r.leave x) ∧ Fr (FCk A b) w w5 := by
        have hm := H4.out
        obtain ⟨_, _, _, _, hd⟩ := hm.lists
        have hR' : RR w5 A.rb (2 * n) 2 [awayN r.ids x, r.sp] A.FR := by
          have e1 : outZ [(r.mid x 3).ids, (r.mid x 3).sp] (x : Int) = [awayN r.ids x, r.sp] := by
            rw [outZ, if_pos (by omega), Int.toNat_natCast]
            have e2 := outL2 hd x
            have e3 : awayN r.sp x = r.sp := awayN_not (hd x HX.out)
            rw [show awayN (r.mid x 3).sp x = r.sp from e3] at e2
            exact e2
          rw [e1] at hR; exact hR
        have hp := hm.rows f5 hR'
        refine ⟨⟨?_, hp.rr, hp.en, hp.fb, hp.mp, hp.lb, hp.hn⟩, (F4.out.mono (fun i q => .inl q)).trans f5 (fun i q => .inl (.inr q))⟩
        refine hp.hd.congr (fun i hi => ?_)
        match i with
        | 0 => rfl
        | 1 => rfl
        | 2 => simp [prH, Raw.mid, Raw.leave]
        | 3 => simp [prH, Raw.mid, Raw.leave]
        | 4 => simp [prH, Raw.mid, Raw.leave]
        | 5 => rfl
        | 6 => rfl
        | 7 => rfl
        | 8 => rfl
        | 9 => rfl
        | i + 10 => omega
      have KEY := Lib.hid key
      clear hR f5 key
      go_wp2
      go_returns
      exact ⟨rfl, KEY.out⟩
    · by_cases ex : h0 = x
      · have EX := Lib.hid ex
        have ex' : ((h0 : Int) == (x : Int)) = true := by simp; omega
        clear ex
        go_wp2_with fail
        refine (HS0.out _ H4.out EX.out).mono ?_
        rintro e w5 ⟨rfl, h5, f5⟩
        have H5 := Lib.hid h5
        have F5 := Lib.hid (F4.out.trans f5 (fun i q => .inl q))
        clear h5 f5
        go_wp2
        go_roundw
        case rel => exact ⟨1, 1, rfl, .inr (.inl ⟨rfl, rfl⟩), H5.out, F5.out⟩
        case measure => simp [intOf]
      · have EX := Lib.hid ex
        have ex' : ((h0 : Int) == (x : Int)) = false := by simp; omega
        clear ex
        go_wp2
        go_roundw
        case rel => exact ⟨1, 1, rfl, .inr (.inl ⟨rfl, rfl⟩), by rw [show (1 : Nat) = 0 + 1 from rfl, mid_no (fun c => EX.out (H0E.out.symm.trans c))]; exact H4.out, F4.out⟩
        case measure => simp [intOf]
    · by_cases ex : h1 = x
      · have EX := Lib.hid ex
        have ex' : ((h1 : Int) == (x : Int)) = true := by simp; omega
        clear ex
        go_wp2_with fail
        refine (HS1.out _ H4.out EX.out).mono ?_
        rintro e w5 ⟨rfl, h5, f5⟩
        have H5 := Lib.hid h5
        have F5 := Lib.hid (F4.out.trans f5 (fun i q => .inl q))
        clear h5 f5
        go_wp2
        go_roundw
        case rel => exact ⟨2, 2, rfl, .inr (.inr (.inl ⟨rfl, rfl⟩)), H5.out, F5.out⟩
        case measure => simp [intOf]
      · have EX := Lib.hid ex
        have ex' : ((h1 : Int) == (x : Int)) = false := by simp; omega
        clear ex
        go_wp2
        go_roundw
        case rel => exact ⟨2, 2, rfl, .inr (.inr (.inl ⟨rfl, rfl⟩)), by rw [show (2 : Nat) = 1 + 1 from rfl, mid_no (fun c => EX.out (H1E.out.symm.trans c))]; exact H4.out, F4.out⟩
        case measure => simp [intOf]
    · by_cases ex : h2 = x
      · have EX := Lib.hid ex
        have ex' : ((h2 : Int) == (x : Int)) = true := by simp; omega
        clear ex
        go_wp2_with fail
        refine (HS2.out _ H4.out EX.out).mono ?_
        rintro e w5 ⟨rfl, h5, f5⟩
        have H5 := Lib.hid h5
        have F5 := Lib.hid (F4.out.trans f5 (fun i q => .inl q))
        clear h5 f5
        go_wp2
        go_roundw
        case rel => exact ⟨3, 3, rfl, .inr (.inr (.inr ⟨rfl, rfl⟩)), H5.out, F5.out⟩
        case measure => simp [intOf]
      · have EX := Lib.hid ex
        have ex' : ((h2 : Int) == (x : Int)) = false := by simp; omega
        clear ex
        go_wp2
        go_roundw
        case rel => exact ⟨3, 3, rfl, .inr (.inr (.inr ⟨rfl, rfl⟩)), by rw [show (3 : Nat) = 2 + 1 from rfl, mid_no (fun c => EX.out (H2E.out.symm.trans c))]; exact H4.out, F4.out⟩
        case measure => simp [intOf]
end
end Go.Proofs.Ytoainbdkhhblbaa

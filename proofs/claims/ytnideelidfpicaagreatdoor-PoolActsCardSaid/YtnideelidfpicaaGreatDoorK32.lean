/-
  The document's own Disk in memory: stopped, Stop, Read.
-/
import Derived.Test.YtnideelidfpicaaGreatDoorK31
namespace Go.Proofs.YtnideelidfpicaaGreatDoor
open Go.RowKit
set_option linter.unusedVariables false

structure RS where
  room : Nat
  L : List (Nat × Nat)
  nr : List (Nat × Nat)
  ns : List (Nat × Nat)
  rd : Nat
  wr : Nat
  stops : Bool
  left : Int
def rH (s : RS) (lv nv sv : Value) : Nat → Value
  | 0 => .int .i64 s.room
  | 1 => lv
  | 2 => nv
  | 3 => sv
  | 4 => .int .i64 s.rd
  | 5 => .int .i64 s.wr
  | 6 => .bool s.stops
  | 7 => .int .i64 s.left
  | _ => .int .i64 0
/-- What is left: a number of 63 bits, or a little below nought. -/
def isLeft (x : Int) : Prop := -1000000000 ≤ x ∧ x < 9223372036854775808
structure RC (w : World) (b : Nat) (s : RS) (lv nv sv : Value) : Prop where
  hd : Blk w b 8 (rH s lv nv sv)
  hl : SlP w lv s.L
  hn : SlP w nv s.nr
  hs : SlP w sv s.ns
  n1 : ∀ i, lv.ownBlock = some i → ¬ i = b
  n2 : ∀ i, nv.ownBlock = some i → ¬ i = b
  n3 : ∀ i, sv.ownBlock = some i → ¬ i = b
  b1 : s.L.length < 100000
  b2 : s.nr.length < 100000
  b3 : s.ns.length < 100000
  b4 : s.rd < 1000000000 ∧ s.wr < 1000000000
  u1 : ∀ p ∈ s.L, isU64 p.2
  u2 : ∀ p ∈ s.nr, isU64 p.2
  u3 : ∀ p ∈ s.ns, isU64 p.2
/-- All its blocks. -/
def FR (b : Nat) (lv nv sv : Value) : Nat → Prop := fun i => i = b ∨ lv.ownBlock = some i ∨ nv.ownBlock = some i ∨ sv.ownBlock = some i
theorem FR.l {b m : Nat} {lv lv' nv sv : Value} (h : ∀ i, lv'.ownBlock = some i → lv.ownBlock = some i ∨ m ≤ i) : ∀ i, FR b lv' nv sv i → FR b lv nv sv i ∨ m ≤ i := by
  rintro i (q | q | q | q)
  · exact .inl (.inl q)
  · exact (h i q).imp (fun q => .inr (.inl q)) id
  · exact .inl (.inr (.inr (.inl q)))
  · exact .inl (.inr (.inr (.inr q)))
theorem FR.n {b m : Nat} {lv nv nv' sv : Value} (h : ∀ i, nv'.ownBlock = some i → nv.ownBlock = some i ∨ m ≤ i) : ∀ i, FR b lv nv' sv i → FR b lv nv sv i ∨ m ≤ i := by
  rintro i (q | q | q | q)
  · exact .inl (.inl q)
  · exact .inl (.inr (.inl q))
  · exact (h i q).imp (fun q => .inr (.inr (.inl q))) id
  · exact .inl (.inr (.inr (.inr q)))
theorem FR.s {b m : Nat} {lv nv sv sv' : Value} (h : ∀ i, sv'.ownBlock = some i → sv.ownBlock = some i ∨ m ≤ i) : ∀ i, FR b lv nv sv' i → FR b lv nv sv i ∨ m ≤ i := by
  rintro i (q | q | q | q)
  · exact .inl (.inl q)
  · exact .inl (.inr (.inl q))
  · exact .inl (.inr (.inr (.inl q)))
  · exact (h i q).imp (fun q => .inr (.inr (.inr q))) id
/-- .. with what it has made since a world. -/
def RD (w0 w : World) (b : Nat) (s : RS) : Prop := ∃ lv nv sv, RC w b s lv nv sv ∧ w0.heap.size ≤ b ∧ Fr NoF w0 w
def RS.stopped (s : RS) : Bool := s.stops && decide (s.left ≤ 0)
section
variable {w w0 w' : World} {b : Nat} {s : RS} {lv nv sv : Value}
theorem RC.ce (h : RC w b s lv nv sv) (i : Nat) (hi : i < 8) : w.cell? ⟨b, i, none⟩ = some (rH s lv nv sv i) := h.hd.cell hi
theorem RC.fr (h : RC w b s lv nv sv) {G : Nat → Prop} (f : Fr G w w') (h0 : ¬ G b) (h1 : ∀ i, lv.ownBlock = some i ∨ nv.ownBlock = some i ∨ sv.ownBlock = some i → ¬ G i) : RC w' b s lv nv sv :=
  ⟨h.hd.fr f h0, h.hl.fr f (fun i q => h1 i (.inl q)), h.hn.fr f (fun i q => h1 i (.inr (.inl q))), h.hs.fr f (fun i q => h1 i (.inr (.inr q))), h.n1, h.n2, h.n3, h.b1, h.b2, h.b3, h.b4, h.u1, h.u2, h.u3⟩
theorem RC.fr0 (h : RC w b s lv nv sv) (f : Fr NoF w w') : RC w' b s lv nv sv := h.fr f (fun q => q) (fun _ _ q => q)
theorem rf_stopped (h : RC w b s lv nv sv) : Calls Tryz.prog 91 #[.pointer (some ⟨b, 0, none⟩)] w fun e w' => e = .returned (.bool s.stopped) ∧ w = w' := by
  have c6 : w.cell? ⟨b, 6, none⟩ = some (.bool s.stops) := h.ce 6 (by omega)
  have c7 : w.cell? ⟨b, 7, none⟩ = some (.int .i64 s.left) := h.ce 7 (by omega)
  have lb := h.hd.lt
  unfold RS.stopped
  generalize s.left = z at c7
  cases hs : s.stops with
  | false =>
    rw [hs] at c6
    clear h hs
    go_enter Tryz.func91, Tryz.ntmps91
    go_wp2
    go_returns
    exact ⟨rfl, rfl⟩
  | true =>
    rw [hs] at c6
    clear h hs
    go_enter Tryz.func91, Tryz.ntmps91
    go_wp2
    go_returns
    exact ⟨by simp, rfl⟩
/-- A cell of the head is written that is no slice. -/
theorem RC.head (h : RC w b s lv nv sv) (i : Nat) (u : Value) {s' : RS} (e : upd (rH s lv nv sv) i u = rH s' lv nv sv) (e1 : s'.L = s.L) (e2 : s'.nr = s.nr) (e3 : s'.ns = s.ns) (e4 : s'.rd < 1000000000 ∧ s'.wr < 1000000000) : RC (w.setCell ⟨b, i, none⟩ u) b s' lv nv sv ∧ Fr (fun k => k = b) w (w.setCell ⟨b, i, none⟩ u) := by
  have f : Fr (fun k => k = b) w (w.setCell ⟨b, i, none⟩ u) := (Fr.refl (fun k => k = b) w).setCell (p := ⟨b, i, none⟩) (.inl rfl) _
  exact ⟨⟨by rw [← e]; exact h.hd.set _ _, by rw [e1]; exact h.hl.fr f h.n1, by rw [e2]; exact h.hn.fr f h.n2, by rw [e3]; exact h.hs.fr f h.n3, h.n1, h.n2, h.n3, by rw [e1]; exact h.b1, by rw [e2]; exact h.b2, by rw [e3]; exact h.b3, e4, by rw [e1]; exact h.u1, by rw [e2]; exact h.u2, by rw [e3]; exact h.u3⟩, f⟩
theorem rH_4 (s : RS) (lv nv sv : Value) (x : Nat) : upd (rH s lv nv sv) 4 (.int .i64 x) = rH { s with rd := x } lv nv sv := by
  funext j
  match j with
  | 0 | 1 | 2 | 3 | 4 | 5 | 6 | 7 => rfl
  | j + 8 => simp [upd, rH]
theorem rH_5 (s : RS) (lv nv sv : Value) (x : Nat) : upd (rH s lv nv sv) 5 (.int .i64 x) = rH { s with wr := x } lv nv sv := by
  funext j
  match j with
  | 0 | 1 | 2 | 3 | 4 | 5 | 6 | 7 => rfl
  | j + 8 => simp [upd, rH]
theorem rH_6 (s : RS) (lv nv sv : Value) (x : Bool) : upd (rH s lv nv sv) 6 (.bool x) = rH { s with stops := x } lv nv sv := by
  funext j
  match j with
  | 0 | 1 | 2 | 3 | 4 | 5 | 6 | 7 => rfl
  | j + 8 => simp [upd, rH]
theorem rH_7 (s : RS) (lv nv sv : Value) (x : Int) : upd (rH s lv nv sv) 7 (.int .i64 x) = rH { s with left := x } lv nv sv := by
  funext j
  match j with
  | 0 | 1 | 2 | 3 | 4 | 5 | 6 | 7 => rfl
  | j + 8 => simp [upd, rH]
theorem rf_stop (h : RC w b s lv nv sv) (t : Int) : Calls Tryz.prog 42 #[.pointer (some ⟨b, 0, none⟩), .int .i64 t] w fun e w' => e = .returned (.tuple #[]) ∧ RC w' b { s with stops := true, left := (t.toNat : Int) } lv nv sv ∧ Fr (fun k => k = b) w w' := by
  have f6 := h.hd.frozen 6
  have f7 := h.hd.frozen 7
  have c6 : w.cell? ⟨b, 6, none⟩ = some (.bool s.stops) := h.ce 6 (by omega)
  have c7 : w.cell? ⟨b, 7, none⟩ = some (.int .i64 s.left) := h.ce 7 (by omega)
  have lb := h.hd.lt
  have K : Hid (∀ z : Int, z = (t.toNat : Int) → RC ((w.setCell ⟨b, 6, none⟩ (.bool true)).setCell ⟨b, 7, none⟩ (.int .i64 z)) b { s with stops := true, left := (t.toNat : Int) } lv nv sv ∧ Fr (fun k => k = b) w ((w.setCell ⟨b, 6, none⟩ (.bool true)).setCell ⟨b, 7, none⟩ (.int .i64 z))) := by
    rintro z rfl
    obtain ⟨h1, f1⟩ := h.head 6 (.bool true) (rH_6 s lv nv sv true) rfl rfl rfl h.b4
    obtain ⟨h2, f2⟩ := h1.head 7 (.int .i64 (t.toNat : Int)) (rH_7 _ lv nv sv _) rfl rfl rfl h.b4
    exact ⟨h2, f1.trans f2 (fun i q => .inl q)⟩
  generalize s.stops = z1 at c6
  generalize s.left = z2 at c7
  clear h
  by_cases h0 : 0 ≤ t
  · go_enter Tryz.func42, Tryz.ntmps42
    go_wp2
    go_returns
    exact ⟨rfl, K.out _ (by omega)⟩
  · have hm : max t 0 = 0 := by omega
    go_enter Tryz.func42, Tryz.ntmps42
    go_wp2
    go_returns
    have ht : (t.toNat : Int) = 0 := by omega
    rw [ht] at K
    exact ⟨rfl, K.out 0 rfl⟩
end
end Go.Proofs.YtnideelidfpicaaGreatDoor

/-
  The document's own Disk in memory: stopped, Stop, Read.
  The document's own Disk in memory: Read.
  The document's own Disk in memory: Write.
  The document's own Disk in memory: set, Fail.
  The document's own Disk in memory: Free.
  The document's own Disk in memory: Alloc.
  The document's own Disk in memory: Alloc, where there are no pages yet.
  Both Disks go alike: the pages as a list, what is to fail, and each call's answer. Plain facts.
  Both Disks in memory, apart from one another, beside a block of the caller's; what each call leaves.
  What the statement asks of both Disks behind each call: Same, Holds.
  told of a Disk; what is said of one that isn't there.
-/
import Derived.Test.YtmpjnphnljakiaaGreatDoorK16
import Derived.RegionTactic
import Derived.Deep.RegionLaw
import Derived.BigRegion
import Derived.Deep.QuietTactic
import Derived.BigQuiet
namespace Go.Proofs.YtmpjnphnljakiaaGreatDoor
open Go.RowKit
set_option linter.unusedVariables false

structure RS where
  room : Nat
  L : List (Nat × Nat)
  nr : List (Nat × Nat)
  ns : List (Nat × Nat)
  rd : Nat
  wr : Nat
  stops : Bool
  left : Int
def rH (s : RS) (lv nv sv : Value) : Nat → Value
  | 0 => .int .i64 s.room
  | 1 => lv
  | 2 => nv
  | 3 => sv
  | 4 => .int .i64 s.rd
  | 5 => .int .i64 s.wr
  | 6 => .bool s.stops
  | 7 => .int .i64 s.left
  | _ => .int .i64 0
/-- What is left: a number of 63 bits, or a little below nought. -/
def isLeft (x : Int) : Prop := -1000000000 ≤ x ∧ x < 9223372036854775808
structure RC (w : World) (b : Nat) (s : RS) (lv nv sv : Value) : Prop where
  hd : Blk w b 8 (rH s lv nv sv)
  hl : SlP w lv s.L
  hn : SlP w nv s.nr
  hs : SlP w sv s.ns
  n1 : ∀ i, lv.ownBlock = some i → ¬ i = b
  n2 : ∀ i, nv.ownBlock = some i → ¬ i = b
  n3 : ∀ i, sv.ownBlock = some i → ¬ i = b
  b1 : s.L.length < 100000
  b2 : s.nr.length < 100000
  b3 : s.ns.length < 100000
  b4 : s.rd < 1000000000 ∧ s.wr < 1000000000
  u1 : ∀ p ∈ s.L, isU64 p.2
  u2 : ∀ p ∈ s.nr, isU64 p.2
  u3 : ∀ p ∈ s.ns, isU64 p.2
/-- All its blocks. -/
def FR (b : Nat) (lv nv sv : Value) : Nat → Prop := fun i => i = b ∨ lv.ownBlock = some i ∨ nv.ownBlock = some i ∨ sv.ownBlock = some i
theorem FR.l {b m : Nat} {lv lv' nv sv : Value} (h : ∀ i, lv'.ownBlock = some i → lv.ownBlock = some i ∨ m ≤ i) : ∀ i, FR b lv' nv sv i → FR b lv nv sv i ∨ m ≤ i := by
  rintro i (q | q | q | q)
  · exact .inl (.inl q)
  · exact (h i q).imp (fun q => .inr (.inl q)) id
  · exact .inl (.inr (.inr (.inl q)))
  · exact .inl (.inr (.inr (.inr q)))
theorem FR.n {b m : Nat} {lv nv nv' sv : Value} (h : ∀ i, nv'.ownBlock = some i → nv.ownBlock = some i ∨ m ≤ i) : ∀ i, FR b lv nv' sv i → FR b lv nv sv i ∨ m ≤ i := by
  rintro i (q | q | q | q)
  · exact .inl (.inl q)
  · exact .inl (.inr (.inl q))
  · exact (h i q).imp (fun q => .inr (.inr (.inl q))) id
  · exact .inl (.inr (.inr (.inr q)))
theorem FR.s {b m : Nat} {lv nv sv sv' : Value} (h : ∀ i, sv'.ownBlock = some i → sv.ownBlock = some i ∨ m ≤ i) : ∀ i, FR b lv nv sv' i → FR b lv nv sv i ∨ m ≤ i := by
  rintro i (q | q | q | q)
  · exact .inl (.inl q)
  · exact .inl (.inr (.inl q))
  · exact .inl (.inr (.inr (.inl q)))
  · exact (h i q).imp (fun q => .inr (.inr (.inr q))) id
/-- .. with what it has made since a world. -/
def RD (w0 w : World) (b : Nat) (s : RS) : Prop := ∃ lv nv sv, RC w b s lv nv sv ∧ w0.heap.size ≤ b ∧ Fr NoF w0 w
def RS.stopped (s : RS) : Bool := s.stops && decide (s.left ≤ 0)
section
variable {w w0 w' : World} {b : Nat} {s : RS} {lv nv sv : Value}
theorem RC.ce (h : RC w b s lv nv sv) (i : Nat) (hi : i < 8) : w.cell? ⟨b, i, none⟩ = some (rH s lv nv sv i) := h.hd.cell hi
theorem RC.fr (h : RC w b s lv nv sv) {G : Nat → Prop} (f : Fr G w w') (h0 : ¬ G b) (h1 : ∀ i, lv.ownBlock = some i ∨ nv.ownBlock = some i ∨ sv.ownBlock = some i → ¬ G i) : RC w' b s lv nv sv :=
  ⟨h.hd.fr f h0, h.hl.fr f (fun i q => h1 i (.inl q)), h.hn.fr f (fun i q => h1 i (.inr (.inl q))), h.hs.fr f (fun i q => h1 i (.inr (.inr q))), h.n1, h.n2, h.n3, h.b1, h.b2, h.b3, h.b4, h.u1, h.u2, h.u3⟩
theorem RC.fr0 (h : RC w b s lv nv sv) (f : Fr NoF w w') : RC w' b s lv nv sv := h.fr f (fun q => q) (fun _ _ q => q)
/-- A cell of the head is written that is no slice. -/
theorem RC.head (h : RC w b s lv nv sv) (i : Nat) (u : Value) {s' : RS} (e : upd (rH s lv nv sv) i u = rH s' lv nv sv) (e1 : s'.L = s.L) (e2 : s'.nr = s.nr) (e3 : s'.ns = s.ns) (e4 : s'.rd < 1000000000 ∧ s'.wr < 1000000000) : RC (w.setCell ⟨b, i, none⟩ u) b s' lv nv sv ∧ Fr (fun k => k = b) w (w.setCell ⟨b, i, none⟩ u) := by
  have f : Fr (fun k => k = b) w (w.setCell ⟨b, i, none⟩ u) := (Fr.refl (fun k => k = b) w).setCell (p := ⟨b, i, none⟩) (.inl rfl) _
  exact ⟨⟨by rw [← e]; exact h.hd.set _ _, by rw [e1]; exact h.hl.fr f h.n1, by rw [e2]; exact h.hn.fr f h.n2, by rw [e3]; exact h.hs.fr f h.n3, h.n1, h.n2, h.n3, by rw [e1]; exact h.b1, by rw [e2]; exact h.b2, by rw [e3]; exact h.b3, e4, by rw [e1]; exact h.u1, by rw [e2]; exact h.u2, by rw [e3]; exact h.u3⟩, f⟩
theorem rH_4 (s : RS) (lv nv sv : Value) (x : Nat) : upd (rH s lv nv sv) 4 (.int .i64 x) = rH { s with rd := x } lv nv sv := by
  funext j
  match j with
  | 0 | 1 | 2 | 3 | 4 | 5 | 6 | 7 => rfl
  | j + 8 => simp [upd, rH]
theorem rH_5 (s : RS) (lv nv sv : Value) (x : Nat) : upd (rH s lv nv sv) 5 (.int .i64 x) = rH { s with wr := x } lv nv sv := by
  funext j
  match j with
  | 0 | 1 | 2 | 3 | 4 | 5 | 6 | 7 => rfl
  | j + 8 => simp [upd, rH]
theorem rH_6 (s : RS) (lv nv sv : Value) (x : Bool) : upd (rH s lv nv sv) 6 (.bool x) = rH { s with stops := x } lv nv sv := by
  funext j
  match j with
  | 0 | 1 | 2 | 3 | 4 | 5 | 6 | 7 => rfl
  | j + 8 => simp [upd, rH]
theorem rH_7 (s : RS) (lv nv sv : Value) (x : Int) : upd (rH s lv nv sv) 7 (.int .i64 x) = rH { s with left := x } lv nv sv := by
  funext j
  match j with
  | 0 | 1 | 2 | 3 | 4 | 5 | 6 | 7 => rfl
  | j + 8 => simp [upd, rH]
end
end Go.Proofs.YtmpjnphnljakiaaGreatDoor
namespace Go.Proofs.YtmpjnphnljakiaaGreatDoor
open Go.RowKit
set_option linter.unusedVariables false

theorem failsP_len (l : List (Nat × Nat)) (id : Nat) : (failsP l id).1.length = l.length := by
  unfold failsP
  split
  · rfl
  · split
    · rfl
    · exact List.length_set
theorem failsP_u {l : List (Nat × Nat)} (h : ∀ p ∈ l, isU64 p.2) (id : Nat) : ∀ p ∈ (failsP l id).1, isU64 p.2 := by
  unfold failsP
  split
  · exact h
  · rename_i k hk
    obtain ⟨hk, _⟩ := atP_is hk
    split
    · exact h
    · intro p hp
      rcases List.mem_or_eq_of_mem_set hp with q | q
      · exact h p q
      · rw [q]
        have hg : l.getD k (0, 0) = l[k] := by simp [hk]
        rw [hg]
        have := h l[k] (List.getElem_mem hk)
        unfold isU64 at *
        show l[k].2 - 1 < _
        omega
def RS.read (s : RS) (id : Nat) : (Nat × Nat) × RS :=
  match atP s.L id with
  | none => ((0, 3), s)
  | some k => if s.stopped = true then ((0, 7), s) else if (failsP s.nr id).2 = true then ((0, 7), { s with nr := (failsP s.nr id).1 }) else (((s.L.getD k (0, 0)).2, 0), { s with rd := s.rd + 1, left := s.left - 1 })
section
variable {w w0 w' : World} {b : Nat} {s : RS} {lv nv sv : Value}
theorem rH_2 (s : RS) (lv nv sv v : Value) : upd (rH s lv nv sv) 2 v = rH s lv v sv := by
  funext j
  match j with
  | 0 | 1 | 2 | 3 | 4 | 5 | 6 | 7 => rfl
  | j + 8 => simp [upd, rH]
theorem rH_3 (s : RS) (lv nv sv v : Value) : upd (rH s lv nv sv) 3 v = rH s lv nv v := by
  funext j
  match j with
  | 0 | 1 | 2 | 3 | 4 | 5 | 6 | 7 => rfl
  | j + 8 => simp [upd, rH]
theorem rH_1 (s : RS) (lv nv sv v : Value) : upd (rH s lv nv sv) 1 v = rH s v nv sv := by
  funext j
  match j with
  | 0 | 1 | 2 | 3 | 4 | 5 | 6 | 7 => rfl
  | j + 8 => simp [upd, rH]
/-- Another list of what is to fail when read. -/
theorem RC.setN (h : RC w b s lv nv sv) {v : Value} {l : List (Nat × Nat)} (hv : SlP w v l) (hb : ∀ i, v.ownBlock = some i → ¬ i = b) (hl : l.length < 100000) (hu : ∀ p ∈ l, isU64 p.2) : RC (w.setCell ⟨b, 2, none⟩ v) b { s with nr := l } lv v sv ∧ Fr (fun k => k = b) w (w.setCell ⟨b, 2, none⟩ v) := by
  have f : Fr (fun k => k = b) w (w.setCell ⟨b, 2, none⟩ v) := (Fr.refl (fun k => k = b) w).setCell (p := ⟨b, 2, none⟩) (.inl rfl) _
  have hd := h.hd.set 2 v
  rw [rH_2] at hd
  exact ⟨⟨hd, h.hl.fr f h.n1, hv.fr f hb, h.hs.fr f h.n3, h.n1, hb, h.n3, h.b1, hl, h.b3, h.b4, h.u1, hu, h.u3⟩, f⟩
theorem RC.setS (h : RC w b s lv nv sv) {v : Value} {l : List (Nat × Nat)} (hv : SlP w v l) (hb : ∀ i, v.ownBlock = some i → ¬ i = b) (hl : l.length < 100000) (hu : ∀ p ∈ l, isU64 p.2) : RC (w.setCell ⟨b, 3, none⟩ v) b { s with ns := l } lv nv v ∧ Fr (fun k => k = b) w (w.setCell ⟨b, 3, none⟩ v) := by
  have f : Fr (fun k => k = b) w (w.setCell ⟨b, 3, none⟩ v) := (Fr.refl (fun k => k = b) w).setCell (p := ⟨b, 3, none⟩) (.inl rfl) _
  have hd := h.hd.set 3 v
  rw [rH_3] at hd
  exact ⟨⟨hd, h.hl.fr f h.n1, h.hn.fr f h.n2, hv.fr f hb, h.n1, h.n2, hb, h.b1, h.b2, hl, h.b4, h.u1, h.u2, hu⟩, f⟩
theorem RC.setL (h : RC w b s lv nv sv) {v : Value} {l : List (Nat × Nat)} (hv : SlP w v l) (hb : ∀ i, v.ownBlock = some i → ¬ i = b) (hl : l.length < 100000) (hu : ∀ p ∈ l, isU64 p.2) : RC (w.setCell ⟨b, 1, none⟩ v) b { s with L := l } v nv sv ∧ Fr (fun k => k = b) w (w.setCell ⟨b, 1, none⟩ v) := by
  have f : Fr (fun k => k = b) w (w.setCell ⟨b, 1, none⟩ v) := (Fr.refl (fun k => k = b) w).setCell (p := ⟨b, 1, none⟩) (.inl rfl) _
  have hd := h.hd.set 1 v
  rw [rH_1] at hd
  exact ⟨⟨hd, hv.fr f hb, h.hn.fr f h.n2, h.hs.fr f h.n3, hb, h.n2, h.n3, hl, h.b2, h.b3, h.b4, hu, h.u2, h.u3⟩, f⟩
end
end Go.Proofs.YtmpjnphnljakiaaGreatDoor
namespace Go.Proofs.YtmpjnphnljakiaaGreatDoor
open Go.RowKit
set_option linter.unusedVariables false

def RS.write (s : RS) (id v : Nat) : Nat × RS :=
  match atP s.L id with
  | none => (3, s)
  | some k => if s.stopped = true then (7, s) else if (failsP s.ns id).2 = true then (7, { s with ns := (failsP s.ns id).1 }) else (0, { s with L := s.L.set k ((s.L.getD k (0, 0)).1, v), wr := s.wr + 1, left := s.left - 1 })
section
variable {w w0 w' : World} {b : Nat} {s : RS} {lv nv sv : Value}
end
end Go.Proofs.YtmpjnphnljakiaaGreatDoor
namespace Go.Proofs.YtmpjnphnljakiaaGreatDoor
open Go.RowKit
set_option linter.unusedVariables false

def setP (l : List (Nat × Nat)) (id x : Nat) : List (Nat × Nat) :=
  match atP l id with
  | none => l ++ [(id, x)]
  | some k => l.set k ((l.getD k (0, 0)).1, x)
theorem setP_len (l : List (Nat × Nat)) (id x : Nat) : (setP l id x).length ≤ l.length + 1 := by
  unfold setP
  split
  · simp
  · rw [List.length_set]; omega
theorem setP_u {l : List (Nat × Nat)} (h : ∀ p ∈ l, isU64 p.2) (id : Nat) {x : Nat} (hx : isU64 x) : ∀ p ∈ setP l id x, isU64 p.2 := by
  unfold setP
  split
  · intro p hp
    rcases List.mem_append.1 hp with q | q
    · exact h p q
    · simp at q; rw [q]; exact hx
  · intro p hp
    rcases List.mem_or_eq_of_mem_set hp with q | q
    · exact h p q
    · rw [q]; exact hx
section
variable {w w0 w' : World} {b : Nat} {s : RS} {lv nv sv v : Value} {l : List (Nat × Nat)}
/-- Fail, in the state's words. -/
def RS.fail (s : RS) (id : Nat) (wr : Bool) (x : Nat) : RS := if wr = true then { s with ns := setP s.ns id x } else { s with nr := setP s.nr id x }
end
end Go.Proofs.YtmpjnphnljakiaaGreatDoor
namespace Go.Proofs.YtmpjnphnljakiaaGreatDoor
open Go.RowKit
set_option linter.unusedVariables false

def RS.free (s : RS) (id : Nat) : Nat × RS :=
  match atP s.L id with
  | none => (3, s)
  | some k => (0, { s with L := s.L.take k ++ s.L.drop (k + 1) })
section
variable {w w0 w' : World} {b : Nat} {s : RS} {lv nv sv v : Value} {l : List (Nat × Nat)}
/-- The first pages of a slice; the last ones. -/
theorem SlP.first {g off c : Nat} (h : SlP w (.slice (some ⟨g, off, none⟩) l.length c) l) {k : Nat} (hk : k ≤ l.length) (hc : 0 < c) : SlC w 2 (.slice (some ⟨g, off, none⟩) k c) k (plC (l.take k)) := by
  obtain ⟨b', o', e, h1⟩ := SlC.cut (lo := 0) (hi := k) h (by omega) hk rfl hc
  simp only [Option.some.injEq, Addr.mk.injEq] at e
  obtain ⟨rfl, rfl, _⟩ := e
  simp only [Nat.zero_mul, Nat.add_zero, Nat.sub_zero, List.drop_zero] at h1
  rw [plC_take] at h1
  exact h1
theorem SlP.last {g off c : Nat} (h : SlP w (.slice (some ⟨g, off, none⟩) l.length c) l) {k : Nat} (hk : k ≤ l.length) (hc : k < c) : SlC w 2 (.slice (some ⟨g, off + k * 2, none⟩) (l.length - k) (c - k)) (l.length - k) (plC (l.drop k)) := by
  obtain ⟨b', o', e, h1⟩ := SlC.cut (lo := k) (hi := l.length) h hk (Nat.le_refl _) rfl hc
  simp only [Option.some.injEq, Addr.mk.injEq] at e
  obtain ⟨rfl, rfl, _⟩ := e
  rw [plC_drop, List.take_of_length_le (by rw [plC_len, List.length_drop]; omega)] at h1
  exact h1
end
end Go.Proofs.YtmpjnphnljakiaaGreatDoor
namespace Go.Proofs.YtmpjnphnljakiaaGreatDoor
open Go.RowKit
set_option linter.unusedVariables false

/-- A page comes at place k, by the id k + 1. -/
def RS.ins (s : RS) (k : Nat) : RS := { s with L := s.L.take k ++ [(k + 1, 0)] ++ s.L.drop k }
/-- Place k is the first one whose page has another id than the place says. -/
structure Gap (L : List (Nat × Nat)) (k : Nat) : Prop where
  le : k ≤ L.length
  all : ∀ j (hj : j < L.length), j < k → L[j].1 = j + 1
  not : ∀ hk : k < L.length, ¬ L[k].1 = k + 1
section
variable {w w0 w' : World} {b : Nat} {s : RS} {lv nv sv v : Value} {l : List (Nat × Nat)}
end
end Go.Proofs.YtmpjnphnljakiaaGreatDoor
namespace Go.Proofs.YtmpjnphnljakiaaGreatDoor
open Go.RowKit
set_option linter.unusedVariables false
section
variable {w w0 w' : World} {b : Nat} {s : RS} {lv nv sv v : Value} {l : List (Nat × Nat)}
end
end Go.Proofs.YtmpjnphnljakiaaGreatDoor
namespace Go.Proofs.YtmpjnphnljakiaaGreatDoor
open Go.RowKit Go.Maps
set_option linter.unusedVariables false

/-- The pages at places a .. a + n - 1. -/
def plR (pg : Nat → Bool × Nat) (a n : Nat) : List (Nat × Nat) := ((List.range' a n).filter fun i => (pg i).1).map fun i => (i + 1, (pg i).2)
def plL (pg : Nat → Bool × Nat) (n : Nat) : List (Nat × Nat) := plR pg 0 n
theorem plR_add (pg : Nat → Bool × Nat) (a m n : Nat) : plR pg a (m + n) = plR pg a m ++ plR pg (a + m) n := by
  unfold plR
  rw [← List.range'_append_1, List.filter_append, List.map_append]
theorem plR_one (pg : Nat → Bool × Nat) (a : Nat) : plR pg a 1 = if (pg a).1 = true then [(a + 1, (pg a).2)] else [] := by
  unfold plR
  by_cases h : (pg a).1 = true <;> simp [h]
theorem plR_congr {pg pg' : Nat → Bool × Nat} {a n : Nat} (h : ∀ i, a ≤ i → i < a + n → pg i = pg' i) : plR pg a n = plR pg' a n := by
  induction n generalizing a with
  | zero => rfl
  | succ n ih =>
    have e1 := plR_add pg a 1 n
    have e2 := plR_add pg' a 1 n
    rw [Nat.add_comm n 1, e1, e2, plR_one, plR_one, h a (by omega) (by omega), ih (a := a + 1) (fun i h1 h2 => h i (by omega) (by omega))]
theorem plR_mem {pg : Nat → Bool × Nat} {a n : Nat} {p : Nat × Nat} : p ∈ plR pg a n ↔ ∃ i, a ≤ i ∧ i < a + n ∧ (pg i).1 = true ∧ p = (i + 1, (pg i).2) := by
  unfold plR
  simp only [List.mem_map, List.mem_filter, List.mem_range'_1]
  constructor
  · rintro ⟨i, ⟨⟨h1, h2⟩, h3⟩, rfl⟩; exact ⟨i, h1, h2, h3, rfl⟩
  · rintro ⟨i, h1, h2, h3, rfl⟩; exact ⟨i, ⟨⟨h1, h2⟩, h3⟩, rfl⟩
theorem plR_len (pg : Nat → Bool × Nat) (a n : Nat) : (plR pg a n).length ≤ n := by
  unfold plR
  rw [List.length_map]
  exact Nat.le_trans (List.length_filter_le _ _) (by rw [List.length_range']; exact Nat.le_refl _)
theorem plR_full {pg : Nat → Bool × Nat} {a n : Nat} (h : ∀ i, a ≤ i → i < a + n → (pg i).1 = true) : (plR pg a n).length = n := by
  unfold plR
  rw [List.length_map, List.filter_eq_self.2 (fun i hi => by rw [List.mem_range'_1] at hi; exact h i hi.1 hi.2), List.length_range']
theorem plL_split (pg : Nat → Bool × Nat) {i n : Nat} (h : i < n) : plL pg n = plL pg i ++ (plR pg i 1 ++ plR pg (i + 1) (n - i - 1)) := by
  unfold plL
  have e := plR_add pg 0 i (1 + (n - i - 1))
  rw [show i + (1 + (n - i - 1)) = n from by omega, Nat.zero_add, plR_add] at e
  exact e
theorem plL_short {pg : Nat → Bool × Nat} {i n : Nat} (h : i < n) (hf : (pg i).1 = false) : (plL pg n).length < n := by
  rw [plL_split pg h, plR_one, hf]
  have h1 := plR_len pg 0 i
  have h2 := plR_len pg (i + 1) (n - i - 1)
  unfold plL
  simp only [List.length_append]
  simp
  omega
theorem ids_plR (pg : Nat → Bool × Nat) (n : Nat) : idsL pg n = (plL pg n).map (·.1) := by
  unfold idsL plL plR
  rw [List.map_map, List.range_eq_range']
  rfl
theorem atP_split {A B : List (Nat × Nat)} {id v : Nat} (h : ∀ p ∈ A, ¬ p.1 = id) : atP (A ++ (id, v) :: B) id = some A.length := by
  refine atP_some (k := A.length) (by simp) (by simp) (fun j hj => ?_)
  rw [List.getElem_append_left hj]
  exact h _ (List.getElem_mem hj)
theorem atP_no {L : List (Nat × Nat)} {id : Nat} (h : ∀ p ∈ L, ¬ p.1 = id) : atP L id = none := atP_none (fun k hk => h _ (List.getElem_mem hk))

/-- Where a page that is there stands. -/
theorem plL_at {pg : Nat → Bool × Nat} {n id : Nat} (h1 : 1 ≤ id) (h2 : id ≤ n) (h3 : (pg (id - 1)).1 = true) : plL pg n = plL pg (id - 1) ++ (id, (pg (id - 1)).2) :: plR pg id (n - id) ∧ atP (plL pg n) id = some (plL pg (id - 1)).length := by
  have e : plL pg n = plL pg (id - 1) ++ (id, (pg (id - 1)).2) :: plR pg id (n - id) := by
    rw [plL_split pg (i := id - 1) (by omega), plR_one, if_pos h3, show id - 1 + 1 = id from by omega, show n - (id - 1) - 1 = n - id from by omega]
    rfl
  refine ⟨e, ?_⟩
  rw [e]
  refine atP_split (fun p hp => ?_)
  unfold plL at hp
  obtain ⟨i, _, q, _, rfl⟩ := plR_mem.1 hp
  show ¬ i + 1 = id
  omega
theorem plL_none {pg : Nat → Bool × Nat} {n id : Nat} (h : ¬ (1 ≤ id ∧ id ≤ n ∧ (pg (id - 1)).1 = true)) : atP (plL pg n) id = none := by
  refine atP_no (fun p hp q => ?_)
  unfold plL at hp
  obtain ⟨i, _, h2, h3, rfl⟩ := plR_mem.1 hp
  have q : i + 1 = id := q
  subst q
  exact h ⟨by omega, by omega, by rw [Nat.add_sub_cancel]; exact h3⟩
theorem plL_upd {pg : Nat → Bool × Nat} {n id : Nat} (h1 : 1 ≤ id) (h2 : id ≤ n) (b : Bool) (v : Nat) : plL (upd pg (id - 1) (b, v)) n = plL pg (id - 1) ++ ((if b = true then [(id, v)] else []) ++ plR pg id (n - id)) := by
  rw [plL_split _ (i := id - 1) (by omega), plR_one, upd_same, show id - 1 + 1 = id from by omega, show n - (id - 1) - 1 = n - id from by omega]
  have e1 : plL (upd pg (id - 1) (b, v)) (id - 1) = plL pg (id - 1) := plR_congr (fun i _ q => upd_other _ _ (by omega))
  have e2 : plR (upd pg (id - 1) (b, v)) id (n - id) = plR pg id (n - id) := plR_congr (fun i q _ => upd_other _ _ (by omega))
  rw [e1, e2]
theorem plL_set {pg : Nat → Bool × Nat} {n id : Nat} (h1 : 1 ≤ id) (h2 : id ≤ n) (h3 : (pg (id - 1)).1 = true) (v : Nat) : (plL pg n).set (plL pg (id - 1)).length (((plL pg n).getD (plL pg (id - 1)).length (0, 0)).1, v) = plL (upd pg (id - 1) ((pg (id - 1)).1, v)) n ∧ (plL pg n).getD (plL pg (id - 1)).length (0, 0) = (id, (pg (id - 1)).2) := by
  have e := (plL_at h1 h2 h3).1
  have g : (plL pg n).getD (plL pg (id - 1)).length (0, 0) = (id, (pg (id - 1)).2) := by rw [e]; simp
  refine ⟨?_, g⟩
  rw [g, h3, plL_upd h1 h2, if_pos rfl]
  conv => lhs; rw [e]
  simp
theorem plL_cut {pg : Nat → Bool × Nat} {n id : Nat} (h1 : 1 ≤ id) (h2 : id ≤ n) (h3 : (pg (id - 1)).1 = true) : (plL pg n).take (plL pg (id - 1)).length ++ (plL pg n).drop ((plL pg (id - 1)).length + 1) = plL (upd pg (id - 1) (false, 0)) n := by
  have e := (plL_at h1 h2 h3).1
  rw [plL_upd h1 h2, if_neg (by simp), e]
  simp
/-- The first id that no page has. -/
theorem plL_gap {pg : Nat → Bool × Nat} {n k : Nat} (h : Gap (plL pg n) k) : k ≤ n ∧ (∀ j, j < k → (pg j).1 = true) ∧ (k < n → (pg k).1 = false) ∧ (plL pg n).take k ++ [(k + 1, 0)] ++ (plL pg n).drop k = plL (upd pg k (true, 0)) (max n (k + 1)) := by
  have hall : ∀ j, j < k → j < n ∧ (pg j).1 = true := by
    intro j hj
    have hl : j < (plL pg n).length := by have := h.le; omega
    have hm := List.getElem_mem hl
    have ha := h.all j hl hj
    unfold plL at hm
    obtain ⟨i, _, q2, q3, q4⟩ := plR_mem.1 hm
    have e : i = j := by
      have : ((plL pg n)[j]).1 = i + 1 := by unfold plL; rw [q4]
      omega
    subst e
    exact ⟨by omega, q3⟩
  have hkn : k ≤ n := by
    rcases Nat.eq_zero_or_pos k with q | q
    · omega
    · have := (hall (k - 1) (by omega)).1; omega
  have hfull : (plL pg k).length = k := plR_full (fun i _ q => (hall i (by omega)).2)
  have esp : plL pg n = plL pg k ++ plR pg k (n - k) := by
    have := plR_add pg 0 k (n - k)
    rw [show k + (n - k) = n from by omega, Nat.zero_add] at this
    exact this
  have hnot : k < n → (pg k).1 = false := by
    intro q
    cases hb : (pg k).1 with
    | false => rfl
    | true =>
      have e2 := plR_add pg k 1 (n - k - 1)
      rw [show 1 + (n - k - 1) = n - k from by omega, plR_one, if_pos hb] at e2
      have hl : k < (plL pg n).length := by rw [esp, e2, List.length_append, hfull]; simp
      have := h.not hl
      refine (this ?_).elim
      have e3 : (plL pg n)[k]? = some (k + 1, (pg k).2) := by
        rw [esp, e2, List.getElem?_append_right (by omega), hfull]
        simp
      rw [List.getElem?_eq_getElem hl] at e3
      rw [Option.some.inj e3]
  refine ⟨hkn, fun j q => (hall j q).2, hnot, ?_⟩
  have et : (plL pg n).take k = plL pg k := by rw [esp]; exact List.take_left' hfull
  have ed : (plL pg n).drop k = plR pg k (n - k) := by rw [esp]; exact List.drop_left' hfull
  rw [et, ed]
  have ek : plL (upd pg k (true, 0)) k = plL pg k := plR_congr (fun i _ q => upd_other _ _ (by omega))
  by_cases q : k < n
  · rw [show max n (k + 1) = n from by omega, plL_split _ q, plR_one, upd_same, if_pos rfl, ek]
    have e2 := plR_add pg k 1 (n - k - 1)
    rw [show 1 + (n - k - 1) = n - k from by omega, plR_one, if_neg (by rw [hnot q]; simp)] at e2
    have e4 : plR (upd pg k (true, 0)) (k + 1) (n - k - 1) = plR pg (k + 1) (n - k - 1) := plR_congr (fun i q _ => upd_other _ _ (by omega))
    rw [e2, e4]
    simp
  · obtain rfl : k = n := by omega
    rw [show max k (k + 1) = k + 1 from by omega, plL_split (upd pg k (true, 0)) (i := k) (n := k + 1) (by omega), plR_one, upd_same, if_pos rfl, ek, show k + 1 - k - 1 = 0 from by omega, Nat.sub_self]
    simp [plR]
theorem Gap.same {L : List (Nat × Nat)} {k k' : Nat} (h : Gap L k) (h' : Gap L k') : k = k' := by
  rcases Nat.lt_trichotomy k k' with q | q | q
  · have hl : k < L.length := by have := h'.le; omega
    exact (h.not hl (h'.all k hl q)).elim
  · exact q
  · have hl : k' < L.length := by have := h.le; omega
    exact (h'.not hl (h.all k' hl q)).elim

/-! ### What is to fail -/
def valP (l : List (Nat × Nat)) (id : Nat) : Nat := match atP l id with
  | none => 0
  | some k => (l.getD k (0, 0)).2
theorem atP_of {l : List (Nat × Nat)} {id : Nat} : (atP l id = none ∧ ∀ p ∈ l, ¬ p.1 = id) ∨ ∃ A v B, l = A ++ (id, v) :: B ∧ (∀ p ∈ A, ¬ p.1 = id) ∧ atP l id = some A.length ∧ valP l id = v := by
  induction l with
  | nil => exact .inl ⟨rfl, fun p hp => (by cases hp)⟩
  | cons a l ih =>
    by_cases e : a.1 = id
    · obtain ⟨a1, a2⟩ := a
      have e : a1 = id := e
      subst e
      have h1 : atP ((a1, a2) :: l) a1 = some 0 := atP_split (A := []) (fun p hp => (by cases hp))
      exact .inr ⟨[], a2, l, rfl, fun p hp => (by cases hp), h1, by unfold valP; rw [h1]; rfl⟩
    · rcases ih with ⟨h1, h2⟩ | ⟨A, v, B, rfl, h2, h3, h4⟩
      · have h5 : ∀ p ∈ a :: l, ¬ p.1 = id := fun p hp => by
          rcases List.mem_cons.1 hp with rfl | q
          · exact e
          · exact h2 p q
        exact .inl ⟨atP_no h5, h5⟩
      · have h5 : ∀ p ∈ a :: A, ¬ p.1 = id := fun p hp => by
          rcases List.mem_cons.1 hp with rfl | q
          · exact e
          · exact h2 p q
        have h6 : atP (a :: (A ++ (id, v) :: B)) id = some (a :: A).length := atP_split h5
        exact .inr ⟨a :: A, v, B, rfl, h5, h6, by unfold valP; rw [h6]; simp⟩
theorem valP_split {A B : List (Nat × Nat)} {id v : Nat} (h : ∀ p ∈ A, ¬ p.1 = id) : valP (A ++ (id, v) :: B) id = v := by
  unfold valP; rw [atP_split h]; simp
/-- Another id's value hangs on the others. -/
theorem valP_other {A B : List (Nat × Nat)} {id v v' x : Nat} (hx : ¬ x = id) : valP (A ++ (id, v) :: B) x = valP (A ++ (id, v') :: B) x := by
  induction A with
  | nil =>
    rcases atP_of (l := B) (id := x) with ⟨h1, h2⟩ | ⟨A', u, B', rfl, h2, h3, h4⟩
    · have g : ∀ v, valP ([] ++ (id, v) :: B) x = 0 := fun v => by
        unfold valP
        rw [atP_no (fun p hp => by
          rcases List.mem_cons.1 hp with rfl | q
          · exact fun q => hx q.symm
          · exact h2 p q)]
      rw [g, g]
    · have g : ∀ v, valP ([] ++ (id, v) :: (A' ++ (x, u) :: B')) x = u := fun v => valP_split (A := (id, v) :: A') (fun p hp => by
          rcases List.mem_cons.1 hp with rfl | q
          · exact fun q => hx q.symm
          · exact h2 p q)
      rw [g, g]
  | cons a A ih =>
    by_cases e : a.1 = x
    · obtain ⟨a1, a2⟩ := a
      have e : a1 = x := e
      subst e
      have g : ∀ l, valP ((a1, a2) :: l) a1 = a2 := fun l => valP_split (A := []) (fun p hp => (by cases hp))
      exact (g _).trans (g _).symm
    · have g : ∀ l : List (Nat × Nat), valP (a :: l) x = valP l x := fun l => by
        rcases atP_of (l := l) (id := x) with ⟨h1, h2⟩ | ⟨A', u, B', rfl, h2, h3, h4⟩
        · unfold valP
          rw [h1, atP_no (fun p hp => by
            rcases List.mem_cons.1 hp with rfl | q
            · exact e
            · exact h2 p q)]
        · rw [h4]
          exact valP_split (A := a :: A') (fun p hp => by
            rcases List.mem_cons.1 hp with rfl | q
            · exact e
            · exact h2 p q)
      show valP (a :: (A ++ (id, v) :: B)) x = valP (a :: (A ++ (id, v') :: B)) x
      rw [g, g]; exact ih
theorem failsP_is (l : List (Nat × Nat)) (id : Nat) : (failsP l id).2 = decide (¬ valP l id = 0) ∧ ∀ x, valP (failsP l id).1 x = if x = id then valP l id - 1 else valP l x := by
  rcases atP_of (l := l) (id := id) with ⟨h1, h2⟩ | ⟨A, v, B, rfl, h2, h3, h4⟩
  · have hv : valP l id = 0 := by unfold valP; rw [h1]
    have e : failsP l id = (l, false) := by unfold failsP; rw [h1]
    rw [e, hv]
    refine ⟨by simp, fun x => ?_⟩
    split
    · rename_i q; rw [q, hv]
    · rfl
  · have g : (A ++ (id, v) :: B).getD A.length (0, 0) = (id, v) := by simp
    rw [h4]
    by_cases hz : v = 0
    · subst hz
      have e : failsP (A ++ (id, 0) :: B) id = (A ++ (id, 0) :: B, false) := by unfold failsP; rw [h3]; simp only [g, if_true]
      rw [e]
      refine ⟨by simp, fun x => ?_⟩
      split
      · rename_i q; rw [q, h4]
      · rfl
    · have e : failsP (A ++ (id, v) :: B) id = (A ++ (id, v - 1) :: B, true) := by
        unfold failsP; rw [h3]; simp only [g, hz, if_false]
        simp
      rw [e]
      refine ⟨by simp [hz], fun x => ?_⟩
      split
      · rename_i q; rw [q]; exact valP_split h2
      · rename_i q; exact valP_other q
theorem setP_is (l : List (Nat × Nat)) (id v x : Nat) : valP (setP l id v) x = if x = id then v else valP l x := by
  rcases atP_of (l := l) (id := id) with ⟨h1, h2⟩ | ⟨A, u, B, rfl, h2, h3, h4⟩
  · have e : setP l id v = l ++ [(id, v)] := by unfold setP; rw [h1]
    rw [e]
    split
    · rename_i q; rw [q]; exact valP_split h2
    · rename_i q
      rcases atP_of (l := l) (id := x) with ⟨g1, g2⟩ | ⟨A, u, B, rfl, g2, g3, g4⟩
      · unfold valP
        rw [g1, atP_no (fun p hp => by
          rcases List.mem_append.1 hp with r | r
          · exact g2 p r
          · simp at r; rw [r]; exact fun s => q s.symm)]
      · rw [g4, List.append_assoc]
        exact valP_split g2
  · have g : (A ++ (id, u) :: B).getD A.length (0, 0) = (id, u) := by simp
    have e : setP (A ++ (id, u) :: B) id v = A ++ (id, v) :: B := by
      unfold setP; rw [h3]; simp only [g]; simp
    rw [e]
    split
    · rename_i q; rw [q]; exact valP_split h2
    · rename_i q; exact valP_other q

/-! ### Both sides -/
structure DRel (s : DS) (r : RS) : Prop where
  room : r.room = s.room
  L : r.L = plL s.pg s.np
  rd : r.rd = s.rd
  wr : r.wr = s.wr
  st : r.stops = s.stops
  le : s.stops = true → r.left = (s.left : Int)
  nr : ∀ id, 1 ≤ id → id ≤ s.room → valP r.nr id = s.fl (id, false)
  ns : ∀ id, 1 ≤ id → id ≤ s.room → valP r.ns id = s.fl (id, true)
  np : s.np ≤ s.room
section
variable {s : DS} {r : RS}
theorem DRel.stopped (h : DRel s r) : r.stopped = decide (s.stops = true ∧ s.left = 0) := by
  unfold RS.stopped
  rw [h.st]
  cases hs : s.stops with
  | false => simp
  | true => rw [h.le hs]; simp <;> omega
theorem DRel.has (h : DRel s r) (id : Nat) : (s.has id = true ∧ 1 ≤ id ∧ id ≤ s.np ∧ (s.pg (id - 1)).1 = true ∧ atP r.L id = some (plL s.pg (id - 1)).length) ∨ (s.has id = false ∧ atP r.L id = none) := by
  rw [h.L]
  by_cases q : 1 ≤ id ∧ id ≤ s.np ∧ (s.pg (id - 1)).1 = true
  · exact .inl ⟨by unfold DS.has; simp [q.1, q.2.1, q.2.2], q.1, q.2.1, q.2.2, (plL_at q.1 q.2.1 q.2.2).2⟩
  · refine .inr ⟨?_, plL_none q⟩
    unfold DS.has
    cases hb : (s.pg (id - 1)).1 with
    | false => simp
    | true =>
      have : ¬ (1 ≤ id ∧ id ≤ s.np) := fun k => q ⟨k.1, k.2, hb⟩
      simp [this]
theorem DRel.read (h : DRel s r) (id : Nat) : (s.read id).1 = (r.read id).1 ∧ DRel (s.read id).2 (r.read id).2 := by
  rcases h.has id with ⟨hh, h1, h2, h3, hat⟩ | ⟨hh, hat⟩
  · have hst := h.stopped
    by_cases q : s.stops = true ∧ s.left = 0
    · have e1 : s.read id = ((0, 7), s) := by unfold DS.read DS.att; rw [hh]; simp [q.1, q.2]
      have e2 : r.read id = ((0, 7), r) := by unfold RS.read; rw [hat]; simp only [hst, q, and_self, decide_true, if_true]
      rw [e1, e2]; exact ⟨rfl, h⟩
    · obtain ⟨f1, f2⟩ := failsP_is r.nr id
      rw [h.nr id h1 (by have := h.np; omega)] at f1 f2
      by_cases z : s.fl (id, false) = 0
      · have e2 : r.read id = (((s.pg (id - 1)).2, 0), { r with rd := r.rd + 1, left := r.left - 1 }) := by
          unfold RS.read; rw [hat]; simp only [hst, q, decide_false, f1, z, not_true, Bool.false_eq_true, if_false]
          rw [h.L, (plL_set h1 h2 h3 0).2]
        rw [e2]
        cases hs : s.stops with
        | false =>
          have e1 : s.read id = (((s.pg (id - 1)).2, 0), { s with rd := s.rd + 1 }) := by unfold DS.read DS.att; rw [hh]; simp [hs, z]
          rw [e1]
          exact ⟨rfl, h.room, h.L, congrArg (· + 1) h.rd, h.wr, h.st, (fun k => by rw [show s.stops = true from k] at hs; cases hs), h.nr, h.ns, h.np⟩
        | true =>
          have hl := h.le hs
          have hl0 : ¬ s.left = 0 := fun k => q ⟨hs, k⟩
          have e1 : s.read id = (((s.pg (id - 1)).2, 0), { s with left := s.left - 1, rd := s.rd + 1 }) := by unfold DS.read DS.att; rw [hh]; simp [hs, z, hl0]
          rw [e1]
          exact ⟨rfl, h.room, h.L, congrArg (· + 1) h.rd, h.wr, h.st, (fun _ => by show r.left - 1 = ((s.left - 1 : Nat) : Int); omega), h.nr, h.ns, h.np⟩
      · have e1 : s.read id = ((0, 7), { s with fl := updK s.fl (id, false) (s.fl (id, false) - 1) }) := by unfold DS.read DS.att; rw [hh]; simp [q, z]
        have e2 : r.read id = ((0, 7), { r with nr := (failsP r.nr id).1 }) := by unfold RS.read; rw [hat]; simp [hst, q, f1, z]
        rw [e1, e2]
        refine ⟨rfl, h.room, h.L, h.rd, h.wr, h.st, h.le, fun x x1 x2 => ?_, fun x x1 x2 => ?_, h.np⟩
        · show valP (failsP r.nr id).1 x = updK s.fl (id, false) (s.fl (id, false) - 1) (x, false)
          rw [f2 x]
          unfold updK
          by_cases e : x = id
          · simp [e]
          · simp [e]; exact h.nr x x1 x2
        · show valP r.ns x = updK s.fl (id, false) (s.fl (id, false) - 1) (x, true)
          unfold updK; simp; exact h.ns x x1 x2
  · have e1 : s.read id = ((0, 3), s) := by unfold DS.read DS.att; rw [hh]; simp
    have e2 : r.read id = ((0, 3), r) := by unfold RS.read; rw [hat]
    rw [e1, e2]; exact ⟨rfl, h⟩
theorem DRel.write (h : DRel s r) (id v : Nat) : (s.write id v).1 = (r.write id v).1 ∧ DRel (s.write id v).2 (r.write id v).2 := by
  rcases h.has id with ⟨hh, h1, h2, h3, hat⟩ | ⟨hh, hat⟩
  · have hst := h.stopped
    by_cases q : s.stops = true ∧ s.left = 0
    · have e1 : s.write id v = (7, s) := by unfold DS.write DS.att; rw [hh]; simp [q.1, q.2]
      have e2 : r.write id v = (7, r) := by unfold RS.write; rw [hat]; simp only [hst, q, and_self, decide_true, if_true]
      rw [e1, e2]; exact ⟨rfl, h⟩
    · obtain ⟨f1, f2⟩ := failsP_is r.ns id
      rw [h.ns id h1 (by have := h.np; omega)] at f1 f2
      by_cases z : s.fl (id, true) = 0
      · have e2 : r.write id v = (0, { r with L := plL (upd s.pg (id - 1) ((s.pg (id - 1)).1, v)) s.np, wr := r.wr + 1, left := r.left - 1 }) := by
          unfold RS.write; rw [hat]; simp only [hst, q, decide_false, f1, z, not_true, Bool.false_eq_true, if_false]
          rw [h.L, (plL_set h1 h2 h3 v).1]
        rw [e2]
        cases hs : s.stops with
        | false =>
          have e1 : s.write id v = (0, { s with wr := s.wr + 1, pg := upd s.pg (id - 1) ((s.pg (id - 1)).1, v) }) := by unfold DS.write DS.att; rw [hh]; simp [hs, z]
          rw [e1]
          exact ⟨rfl, h.room, rfl, h.rd, congrArg (· + 1) h.wr, h.st, (fun k => by rw [show s.stops = true from k] at hs; cases hs), h.nr, h.ns, h.np⟩
        | true =>
          have hl := h.le hs
          have hl0 : ¬ s.left = 0 := fun k => q ⟨hs, k⟩
          have e1 : s.write id v = (0, { s with left := s.left - 1, wr := s.wr + 1, pg := upd s.pg (id - 1) ((s.pg (id - 1)).1, v) }) := by unfold DS.write DS.att; rw [hh]; simp [hs, z, hl0]
          rw [e1]
          exact ⟨rfl, h.room, rfl, h.rd, congrArg (· + 1) h.wr, h.st, (fun _ => by show r.left - 1 = ((s.left - 1 : Nat) : Int); omega), h.nr, h.ns, h.np⟩
      · have e1 : s.write id v = (7, { s with fl := updK s.fl (id, true) (s.fl (id, true) - 1) }) := by unfold DS.write DS.att; rw [hh]; simp [q, z]
        have e2 : r.write id v = (7, { r with ns := (failsP r.ns id).1 }) := by unfold RS.write; rw [hat]; simp [hst, q, f1, z]
        rw [e1, e2]
        refine ⟨rfl, h.room, h.L, h.rd, h.wr, h.st, h.le, fun x x1 x2 => ?_, fun x x1 x2 => ?_, h.np⟩
        · show valP r.nr x = updK s.fl (id, true) (s.fl (id, true) - 1) (x, false)
          unfold updK; simp; exact h.nr x x1 x2
        · show valP (failsP r.ns id).1 x = updK s.fl (id, true) (s.fl (id, true) - 1) (x, true)
          rw [f2 x]
          unfold updK
          by_cases e : x = id
          · simp [e]
          · simp [e]; exact h.ns x x1 x2
  · have e1 : s.write id v = (3, s) := by unfold DS.write DS.att; rw [hh]; simp
    have e2 : r.write id v = (3, r) := by unfold RS.write; rw [hat]
    rw [e1, e2]; exact ⟨rfl, h⟩
theorem DRel.free_no (h : DRel s r) {id : Nat} (hh : s.has id = false) : r.free id = (3, r) := by
  rcases h.has id with ⟨q, _⟩ | ⟨_, hat⟩
  · rw [hh] at q; cases q
  · unfold RS.free; rw [hat]
theorem DRel.free_yes (h : DRel s r) {id : Nat} (hh : s.has id = true) : (r.free id).1 = 0 ∧ DRel (s.gone id) (r.free id).2 := by
  rcases h.has id with ⟨_, h1, h2, h3, hat⟩ | ⟨q, _⟩
  · have e : r.free id = (0, { r with L := plL (upd s.pg (id - 1) (false, 0)) s.np }) := by
      unfold RS.free; rw [hat, h.L]; simp only [plL_cut h1 h2 h3]
    rw [e]
    exact ⟨rfl, h.room, rfl, h.rd, h.wr, h.st, h.le, h.nr, h.ns, h.np⟩
  · rw [hh] at q; cases q
theorem DRel.fail (h : DRel s r) (id : Nat) (b : Bool) (x : Nat) : DRel (s.fail id b x) (r.fail id b x) := by
  have hk : ∀ y c, 1 ≤ y → y ≤ s.room → (s.fail id b x).fl (y, c) = if y = id ∧ c = b then x else s.fl (y, c) := by
    intro y c y1 y2
    unfold DS.fail
    by_cases q : 1 ≤ id ∧ id ≤ s.room
    · rw [if_pos q]
      show updK s.fl (id, b) x (y, c) = _
      unfold updK
      by_cases e : y = id <;> by_cases e' : c = b <;> simp [e, e']
    · rw [if_neg q, if_neg]
      rintro ⟨rfl, _⟩; exact q ⟨y1, y2⟩
  have ho : (s.fail id b x).room = s.room ∧ (s.fail id b x).np = s.np ∧ (s.fail id b x).pg = s.pg ∧ (s.fail id b x).rd = s.rd ∧ (s.fail id b x).wr = s.wr ∧ (s.fail id b x).stops = s.stops ∧ (s.fail id b x).left = s.left := by
    unfold DS.fail; split <;> exact ⟨rfl, rfl, rfl, rfl, rfl, rfl, rfl⟩
  obtain ⟨o1, o2, o3, o4, o5, o6, o7⟩ := ho
  cases b with
  | false =>
    refine ⟨by rw [o1]; exact h.room, by rw [o2, o3]; exact h.L, by rw [o4]; exact h.rd, by rw [o5]; exact h.wr, by rw [o6]; exact h.st, by rw [o6, o7]; exact h.le, fun y y1 y2 => ?_, fun y y1 y2 => ?_, by rw [o1, o2]; exact h.np⟩
    · rw [o1] at y2
      rw [hk y _ y1 y2]
      show valP (setP r.nr id x) y = _
      rw [setP_is]
      by_cases e : y = id <;> simp [e]
      exact h.nr y y1 y2
    · rw [o1] at y2
      rw [hk y _ y1 y2]
      show valP r.ns y = _
      simp
      exact h.ns y y1 y2
  | true =>
    refine ⟨by rw [o1]; exact h.room, by rw [o2, o3]; exact h.L, by rw [o4]; exact h.rd, by rw [o5]; exact h.wr, by rw [o6]; exact h.st, by rw [o6, o7]; exact h.le, fun y y1 y2 => ?_, fun y y1 y2 => ?_, by rw [o1, o2]; exact h.np⟩
    · rw [o1] at y2
      rw [hk y _ y1 y2]
      show valP r.nr y = _
      simp
      exact h.nr y y1 y2
    · rw [o1] at y2
      rw [hk y _ y1 y2]
      show valP (setP r.ns id x) y = _
      rw [setP_is]
      by_cases e : y = id <;> simp [e]
      exact h.ns y y1 y2
theorem DRel.stop (h : DRel s r) (t : Nat) : DRel { s with stops := true, left := t } { r with stops := true, left := (t : Int) } :=
  ⟨h.room, h.L, h.rd, h.wr, rfl, fun _ => rfl, h.nr, h.ns, h.np⟩
/-- A page comes by the first id that none has. -/
def DS.put (s : DS) (k : Nat) : DS := { s with np := max s.np (k + 1), pg := upd s.pg k (true, 0) }
theorem DRel.put (h : DRel s r) {k : Nat} (hg : Gap r.L k) (hl : r.L.length < r.room) : DRel (s.put k) (r.ins k) := by
  rw [h.L] at hg hl
  obtain ⟨g1, g2, g3, g4⟩ := plL_gap hg
  refine ⟨h.room, ?_, h.rd, h.wr, h.st, h.le, h.nr, h.ns, ?_⟩
  · show r.L.take k ++ [(k + 1, 0)] ++ r.L.drop k = _
    rw [h.L]; exact g4
  · show max s.np (k + 1) ≤ s.room
    have hnp := h.np
    rw [h.room] at hl
    rcases Nat.lt_or_ge k s.np with q | q
    · omega
    · have e : k = s.np := by omega
      subst e
      have : (plL s.pg s.np).length = s.np := plR_full (fun i _ q => g2 i (by omega))
      omega
end
end Go.Proofs.YtmpjnphnljakiaaGreatDoor
namespace Go.Proofs.YtmpjnphnljakiaaGreatDoor
open Go.RowKit Go.Maps
set_option linter.unusedVariables false

structure TwoI (w0 w : World) (db rb : Nat) (s : DS) (r : RS) (m m' c : Nat) (pv fv : Value) (mb : Nat) (fh : Nat → Nat) (nf : Nat) (lv nv sv : Value) : Prop where
  d : DC w db s c pv fv mb fh nf
  e : RC w rb r lv nv sv
  sep : ∀ i, FD db pv fv mb i → ¬ FR rb lv nv sv i
  bd : c ≤ m ∧ s.rd ≤ m ∧ s.wr ≤ m
  be : r.nr.length ≤ m' ∧ r.ns.length ≤ m' ∧ r.rd ≤ m' ∧ r.wr ≤ m' ∧ -(m' : Int) ≤ r.left
  bl : isI63 r.left.toNat
  od : ∀ i, FD db pv fv mb i → w0.heap.size ≤ i
  oe : w0.heap.size ≤ rb
  f : Fr NoF w0 w
def TwoE (w0 w : World) (db rb : Nat) (s : DS) (r : RS) (m m' : Nat) : Prop := ∃ c pv fv mb fh nf lv nv sv, TwoI w0 w db rb s r m m' c pv fv mb fh nf lv nv sv
def TwoB (w0 w : World) (db rb : Nat) (s : DS) (r : RS) (m m' ob : Nat) (oc : Nat → Value) : Prop := ∃ c pv fv mb fh nf lv nv sv, TwoI w0 w db rb s r m m' c pv fv mb fh nf lv nv sv ∧ Blk w ob 5 oc ∧ ¬ FD db pv fv mb ob ∧ ¬ FR rb lv nv sv ob

section
variable {w0 w w' w1 : World} {db rb m m' c mb nf ob : Nat} {s s1 : DS} {r r1 : RS} {pv fv lv nv sv : Value} {fh : Nat → Nat} {oc : Nat → Value}
theorem RC.lt (h : RC w rb r lv nv sv) : ∀ i, FR rb lv nv sv i → i < w.heap.size := by
  rintro i (q | q | q | q)
  · rw [q]; exact h.hd.lt
  · exact SlC.lt h.hl i q
  · exact SlC.lt h.hn i q
  · exact SlC.lt h.hs i q
theorem TwoI.fr0 (h : TwoI w0 w db rb s r m m' c pv fv mb fh nf lv nv sv) (f : Fr NoF w w') : TwoI w0 w' db rb s r m m' c pv fv mb fh nf lv nv sv :=
  ⟨h.d.fr0 f, h.e.fr0 f, h.sep, h.bd, h.be, h.bl, h.od, h.oe, h.f.trans f (fun _ q => q.elim)⟩
theorem TwoE.fr0 (h : TwoE w0 w db rb s r m m') (f : Fr NoF w w') : TwoE w0 w' db rb s r m m' := by
  obtain ⟨c, pv, fv, mb, fh, nf, lv, nv, sv, h⟩ := h
  exact ⟨c, pv, fv, mb, fh, nf, lv, nv, sv, h.fr0 f⟩
theorem TwoE.more (h : TwoE w0 w db rb s r m m') {k k' : Nat} (h1 : m ≤ k) (h2 : m' ≤ k') : TwoE w0 w db rb s r k k' := by
  obtain ⟨c, pv, fv, mb, fh, nf, lv, nv, sv, h⟩ := h
  obtain ⟨b1, b2, b3⟩ := h.bd
  obtain ⟨e1, e2, e3, e4, e5⟩ := h.be
  exact ⟨c, pv, fv, mb, fh, nf, lv, nv, sv, h.d, h.e, h.sep, ⟨by omega, by omega, by omega⟩, ⟨by omega, by omega, by omega, by omega, by omega⟩, h.bl, h.od, h.oe, h.f⟩
theorem TwoB.fr0 (h : TwoB w0 w db rb s r m m' ob oc) (f : Fr NoF w w') : TwoB w0 w' db rb s r m m' ob oc := by
  obtain ⟨c, pv, fv, mb, fh, nf, lv, nv, sv, h, hb, h1, h2⟩ := h
  exact ⟨c, pv, fv, mb, fh, nf, lv, nv, sv, h.fr0 f, hb.fr f (fun q => q), h1, h2⟩
theorem TwoB.e (h : TwoB w0 w db rb s r m m' ob oc) : TwoE w0 w db rb s r m m' := by
  obtain ⟨c, pv, fv, mb, fh, nf, lv, nv, sv, h, hb, h1, h2⟩ := h
  exact ⟨c, pv, fv, mb, fh, nf, lv, nv, sv, h⟩
theorem TwoB.cell (h : TwoB w0 w db rb s r m m' ob oc) (f : Fr NoF w w') {i : Nat} (hi : i < 5) : w'.cell? ⟨ob, i, none⟩ = some (oc i) := by
  obtain ⟨c, pv, fv, mb, fh, nf, lv, nv, sv, h, hb, h1, h2⟩ := h
  exact (hb.fr f (fun q => q)).cell hi
/-- A block of the caller's is laid beside. -/
theorem TwoE.with (h : TwoE w0 w db rb s r m m') (hb : Blk w' ob 5 oc) (f : Fr NoF w w') (ho : w.heap.size ≤ ob) : TwoB w0 w' db rb s r m m' ob oc := by
  obtain ⟨c, pv, fv, mb, fh, nf, lv, nv, sv, h⟩ := h
  exact ⟨c, pv, fv, mb, fh, nf, lv, nv, sv, h.fr0 f, hb, fun q => by have := h.d.lt ob q; omega, fun q => by have := h.e.lt ob q; omega⟩
/-- A call of the disk. -/
theorem TwoI.code (h : TwoI w0 w db rb s r m m' c pv fv mb fh nf lv nv sv) (hb : Blk w ob 5 oc) (g1 : ¬ FD db pv fv mb ob) (g2 : ¬ FR rb lv nv sv ob) {c1 nf1 m1 mb1 : Nat} {pv1 fv1 : Value} {fh1 : Nat → Nat} {G : Nat → Prop} (hd : DC w1 db s1 c1 pv1 fv1 mb1 fh1 nf1) (f : Fr G w w1) (hG : ∀ i, G i → FD db pv fv mb i) (hF : ∀ i, FD db pv1 fv1 mb1 i → FD db pv fv mb i ∨ w.heap.size ≤ i) (hbd : c1 ≤ m1 ∧ s1.rd ≤ m1 ∧ s1.wr ≤ m1) :
    TwoB w0 w1 db rb s1 r m1 m' ob oc := by
  have lo := hb.lt
  refine ⟨c1, pv1, fv1, mb1, fh1, nf1, lv, nv, sv, ⟨hd, h.e.fr f (fun q => h.sep rb (hG rb q) (.inl rfl)) (fun i q k => h.sep i (hG i k) (.inr q)), fun i q k => ?_, hbd, h.be, h.bl, fun i q => ?_, h.oe, h.f.trans f (fun i q => .inr (h.od i (hG i q)))⟩, hb.fr f (fun q => g1 (hG ob q)), fun q => ?_, g2⟩
  · rcases hF i q with q | q
    · exact h.sep i q k
    · have := h.e.lt i k; omega
  · rcases hF i q with q | q
    · exact h.od i q
    · exact Nat.le_trans h.f.size q
  · rcases hF ob q with q | q
    · exact g1 q
    · omega
/-- A call of the document's. -/
theorem TwoI.ref (h : TwoI w0 w db rb s r m m' c pv fv mb fh nf lv nv sv) (hb : Blk w ob 5 oc) (g1 : ¬ FD db pv fv mb ob) (g2 : ¬ FR rb lv nv sv ob) {m1 : Nat} {lv1 nv1 sv1 : Value} (he : RC w1 rb r1 lv1 nv1 sv1) (f : Fr (fun k => k = rb) w w1) (hF : ∀ i, FR rb lv1 nv1 sv1 i → FR rb lv nv sv i ∨ w.heap.size ≤ i) (hbe : r1.nr.length ≤ m1 ∧ r1.ns.length ≤ m1 ∧ r1.rd ≤ m1 ∧ r1.wr ≤ m1 ∧ -(m1 : Int) ≤ r1.left) (hbl : isI63 r1.left.toNat) :
    TwoB w0 w1 db rb s r1 m m1 ob oc := by
  have lo := hb.lt
  refine ⟨c, pv, fv, mb, fh, nf, lv1, nv1, sv1, ⟨h.d.fr f (fun i q k => h.sep i q (.inl k)), he, fun i q k => ?_, h.bd, hbe, hbl, h.od, h.oe, h.f.trans f (fun i q => .inr (by rw [q]; exact h.oe))⟩, hb.fr f (fun q => g2 (.inl q)), g1, fun q => ?_⟩
  · rcases hF i k with k | k
    · exact h.sep i q k
    · have := h.d.lt i q; omega
  · rcases hF ob q with q | q
    · exact g2 q
    · omega

/-! ### Bounds -/
theorem DS.read_b (s : DS) (id : Nat) : (s.read id).2.rd ≤ s.rd + 1 ∧ (s.read id).2.wr = s.wr := by
  obtain ⟨a1, a2, a3, a4, a5⟩ := s.att_2 id false
  unfold DS.read
  split
  · exact ⟨Nat.le_refl _, a5⟩
  · exact ⟨by show (s.att id false).2.rd ≤ _; omega, a5⟩
theorem DS.write_b (s : DS) (id v : Nat) : (s.write id v).2.rd = s.rd ∧ (s.write id v).2.wr ≤ s.wr + 1 := by
  obtain ⟨a1, a2, a3, a4, a5⟩ := s.att_2 id true
  unfold DS.write
  split
  · exact ⟨a4, Nat.le_refl _⟩
  · exact ⟨a4, by show (s.att id true).2.wr ≤ _; omega⟩
theorem DS.fail_b (s : DS) (id : Nat) (b : Bool) (x : Nat) : (s.fail id b x).rd = s.rd ∧ (s.fail id b x).wr = s.wr := by unfold DS.fail; split <;> exact ⟨rfl, rfl⟩
/-- What is left may be one less. -/
def leftB (a b : Int) : Prop := a = b ∨ a = b - 1
theorem RS.read_b (r : RS) (id : Nat) : (r.read id).2.nr.length = r.nr.length ∧ (r.read id).2.ns = r.ns ∧ (r.read id).2.rd ≤ r.rd + 1 ∧ (r.read id).2.wr = r.wr ∧ leftB (r.read id).2.left r.left := by
  unfold RS.read
  split
  · exact ⟨rfl, rfl, Nat.le_succ _, rfl, .inl rfl⟩
  · split
    · exact ⟨rfl, rfl, Nat.le_succ _, rfl, .inl rfl⟩
    · split
      · exact ⟨failsP_len _ _, rfl, Nat.le_succ _, rfl, .inl rfl⟩
      · exact ⟨rfl, rfl, Nat.le_refl _, rfl, .inr rfl⟩
theorem RS.write_b (r : RS) (id v : Nat) : (r.write id v).2.nr = r.nr ∧ (r.write id v).2.ns.length = r.ns.length ∧ (r.write id v).2.rd = r.rd ∧ (r.write id v).2.wr ≤ r.wr + 1 ∧ leftB (r.write id v).2.left r.left := by
  unfold RS.write
  split
  · exact ⟨rfl, rfl, rfl, Nat.le_succ _, .inl rfl⟩
  · split
    · exact ⟨rfl, rfl, rfl, Nat.le_succ _, .inl rfl⟩
    · split
      · exact ⟨rfl, failsP_len _ _, rfl, Nat.le_succ _, .inl rfl⟩
      · exact ⟨rfl, rfl, rfl, Nat.le_refl _, .inr rfl⟩
theorem left_keep {a b : Int} (h : leftB a b) (hb : isI63 b.toNat) : isI63 a.toNat := by
  unfold isI63 at *
  rcases h with h | h
  · rw [h]; exact hb
  · have : a.toNat ≤ b.toNat := by omega
    omega
theorem left_is {b : Int} {m : Nat} (h : -(m : Int) ≤ b) (hm : m < 100000) (hb : isI63 b.toNat) : isLeft (b - 1) := by
  unfold isI63 at hb
  unfold isLeft
  omega

/-! ### The disk's calls -/
theorem tw_read_d (h : TwoB w0 w db rb s r m m' ob oc) (hm : m < 100000) {id : Nat} (hu : isU32 id) : Calls Tryz.prog 52 #[.pointer (some ⟨db, 0, none⟩), .int .u32 id] w fun e w' => e = .returned (.tuple #[.int .u64 (s.read id).1.1, .int .i64 (s.read id).1.2]) ∧ TwoB w0 w' db rb (s.read id).2 r (m + 1) m' ob oc := by
  obtain ⟨c, pv, fv, mb, fh, nf, lv, nv, sv, h, hb, g1, g2⟩ := h
  obtain ⟨b1, b2, b3⟩ := h.bd
  obtain ⟨r1, r2⟩ := s.read_b id
  refine (dk_read h.d hu (by omega)).mono ?_
  rintro e w' ⟨he, ⟨c', hc, hd⟩, f⟩
  exact ⟨he, h.code hb g1 g2 hd f (fun i q => q.elim .inl (fun q => .inr (.inl q))) (fun i q => .inl q) ⟨by omega, by omega, by omega⟩⟩
theorem tw_write_d (h : TwoB w0 w db rb s r m m' ob oc) (hm : m < 100000) {id : Nat} (hu : isU32 id) (v : Nat) : Calls Tryz.prog 76 #[.pointer (some ⟨db, 0, none⟩), .int .u32 id, .int .u64 v] w fun e w' => e = .returned (.int .i64 (s.write id v).1) ∧ TwoB w0 w' db rb (s.write id v).2 r (m + 1) m' ob oc := by
  obtain ⟨c, pv, fv, mb, fh, nf, lv, nv, sv, h, hb, g1, g2⟩ := h
  obtain ⟨b1, b2, b3⟩ := h.bd
  obtain ⟨r1, r2⟩ := s.write_b id v
  refine (dk_write h.d hu v (by omega)).mono ?_
  rintro e w' ⟨he, ⟨c', hc, hd⟩, f⟩
  exact ⟨he, h.code hb g1 g2 hd f (fun i q => by rcases q with q | q | q; exact .inl q; exact .inr (.inl q); exact .inr (.inr (.inl q))) (fun i q => .inl q) ⟨by omega, by omega, by omega⟩⟩
/-- Free, in the state's words. -/
def DS.free (s : DS) (id : Nat) : Nat × DS := if s.has id = true then (0, s.gone id) else (3, s)
theorem tw_free_d (h : TwoB w0 w db rb s r m m' ob oc) {id : Nat} (hu : isU32 id) : Calls Tryz.prog 49 #[.pointer (some ⟨db, 0, none⟩), .int .u32 id] w fun e w' => e = .returned (.int .i64 (s.free id).1) ∧ TwoB w0 w' db rb (s.free id).2 r m m' ob oc := by
  cases hh : s.has id with
  | false =>
    have e : s.free id = (3, s) := by unfold DS.free; rw [hh]; rfl
    rw [e]
    have h0 := h
    obtain ⟨c, pv, fv, mb, fh, nf, lv, nv, sv, h, hb, g1, g2⟩ := h
    refine (dk_free_no h.d hu hh).mono ?_
    rintro e w' ⟨he, rfl⟩
    exact ⟨he, h0⟩
  | true =>
    have e : s.free id = (0, s.gone id) := by unfold DS.free; rw [hh]; rfl
    rw [e]
    obtain ⟨c, pv, fv, mb, fh, nf, lv, nv, sv, h, hb, g1, g2⟩ := h
    refine (dk_free_yes h.d hu hh).mono ?_
    rintro e w' ⟨he, ⟨fv', hd, ho⟩, f⟩
    refine ⟨he, h.code hb g1 g2 hd f (fun i q => q) (fun i q => ?_) h.bd⟩
    rcases q with q | q | q | q
    · exact .inl (.inl q)
    · exact .inl (.inr (.inl q))
    · exact .inl (.inr (.inr (.inl q)))
    · exact (ho i q).imp (fun q => .inr (.inr (.inr q))) (fun q => q)
theorem tw_fail_d (h : TwoB w0 w db rb s r m m' ob oc) (hm : m < 100000) {id : Nat} (hu : isU32 id) (b : Bool) (t : Int) (ht : isI63 t.toNat) : Calls Tryz.prog 85 #[.pointer (some ⟨db, 0, none⟩), .int .u32 id, .bool b, .int .i64 t] w fun e w' => e = .returned (.tuple #[]) ∧ TwoB w0 w' db rb (s.fail id b t.toNat) r (m + 1) m' ob oc := by
  obtain ⟨c, pv, fv, mb, fh, nf, lv, nv, sv, h, hb, g1, g2⟩ := h
  obtain ⟨b1, b2, b3⟩ := h.bd
  by_cases hin : 1 ≤ id ∧ id ≤ s.room
  · have e : s.fail id b t.toNat = { s with fl := updK s.fl (id, b) t.toNat } := by unfold DS.fail; rw [if_pos hin]
    rw [e]
    by_cases h0 : t < 1
    · have e0 : t.toNat = 0 := by omega
      rw [e0]
      refine (dk_fail_none h.d hu b h0 hin).mono ?_
      rintro e w' ⟨he, ⟨c', hc, hd⟩, f⟩
      exact ⟨he, h.code hb g1 g2 hd f (fun i q => .inr (.inl q)) (fun i q => .inl q) ⟨by omega, Nat.le_succ_of_le b2, Nat.le_succ_of_le b3⟩⟩
    · obtain ⟨k, rfl⟩ := Int.eq_ofNat_of_zero_le (show 0 ≤ t by omega)
      refine (dk_fail_some h.d hu b (k := k) (by omega) ht hin (fun _ => by omega)).mono ?_
      rintro e w' ⟨he, ⟨c', hc, _, hd⟩, f⟩
      exact ⟨he, h.code hb g1 g2 hd f (fun i q => .inr (.inl q)) (fun i q => .inl q) ⟨by omega, Nat.le_succ_of_le b2, Nat.le_succ_of_le b3⟩⟩
  · have e : s.fail id b t.toNat = s := by unfold DS.fail; rw [if_neg hin]
    rw [e]
    refine (dk_fail_no h.d hu b t hin).mono ?_
    rintro e w' ⟨he, rfl⟩
    exact ⟨he, h.code hb g1 g2 h.d (Fr.refl NoF _) (fun i q => q.elim) (fun i q => .inl q) ⟨by omega, by omega, by omega⟩⟩
theorem tw_full_d (h : TwoB w0 w db rb s r m m' ob oc) (R : DRel s r) (hf : r.room ≤ r.L.length) : Calls Tryz.prog 47 #[.pointer (some ⟨db, 0, none⟩)] w fun e w' => e = .returned (.tuple #[.int .u32 0, .int .i64 2]) ∧ TwoB w0 w' db rb s r m m' ob oc := by
  have h0 := h
  obtain ⟨c, pv, fv, mb, fh, nf, lv, nv, sv, h, hb, g1, g2⟩ := h
  rw [R.L, R.room] at hf
  have h1 := plR_len s.pg 0 s.np
  have h2 : (plL s.pg s.np).length ≤ s.np := h1
  cases nf with
  | zero =>
    refine (dk_alloc_full h.d (by omega)).mono ?_
    rintro e w' ⟨he, d, rfl⟩
    exact ⟨he, h0.fr0 ((Fr.refl NoF _).drewN d)⟩
  | succ nf =>
    obtain ⟨l1, l2, l3, l4⟩ := h.d.least
    have := plL_short (pg := s.pg) (i := fh 0 - 1) (n := s.np) (by omega) l3
    have := R.np
    omega
theorem tw_alloc_d (h : TwoB w0 w db rb s r m m' ob oc) (R : DRel s r) (hf : r.L.length < r.room) : Calls Tryz.prog 47 #[.pointer (some ⟨db, 0, none⟩)] w fun e w' => ∃ k, (∀ j, Gap r.L j → j = k) ∧ e = .returned (.tuple #[.int .u32 (k + 1 : Nat), .int .i64 0]) ∧ TwoB w0 w' db rb (s.put k) r m m' ob oc := by
  obtain ⟨c, pv, fv, mb, fh, nf, lv, nv, sv, h, hb, g1, g2⟩ := h
  rw [R.L, R.room] at hf
  rw [R.L]
  cases nf with
  | zero =>
    have hall : ∀ i, 0 ≤ i → i < 0 + s.np → (s.pg i).1 = true := by
      intro i _ hi
      cases hb : (s.pg i).1 with
      | true => rfl
      | false =>
        obtain ⟨k, q, _⟩ := (h.d.fm (i + 1)).2 ⟨by omega, by omega, by rw [Nat.add_sub_cancel]; exact hb⟩
        omega
    have hlen : (plL s.pg s.np).length = s.np := plR_full hall
    have e : s.put s.np = s.grow := by unfold DS.put DS.grow; rw [show max s.np (s.np + 1) = s.np + 1 from by omega]
    refine (dk_alloc_new h.d (by omega)).mono ?_
    rintro e' w' ⟨he, ⟨pv', hd, ho⟩, f⟩
    refine ⟨s.np, fun j hj => ?_, he, ?_⟩
    · obtain ⟨q1, q2, q3, q4⟩ := plL_gap hj
      rcases Nat.lt_or_ge j s.np with q | q
      · have := q3 q; rw [hall j (by omega) (by omega)] at this; cases this
      · omega
    · rw [e]
      refine h.code hb g1 g2 hd f (fun i q => q.elim .inl (fun q => .inr (.inr (.inl q)))) (fun i q => ?_) h.bd
      rcases q with q | q | q | q
      · exact .inl (.inl q)
      · exact .inl (.inr (.inl q))
      · exact (ho i q).imp (fun q => .inr (.inr (.inl q))) id
      · exact .inl (.inr (.inr (.inr q)))
  | succ nf =>
    obtain ⟨l1, l2, l3, l4⟩ := h.d.least
    refine (dk_alloc_pop h.d).mono ?_
    rintro e' w' ⟨he, ⟨fv', hd, ho⟩, f⟩
    refine ⟨fh 0 - 1, fun j hj => ?_, by rw [show fh 0 - 1 + 1 = fh 0 from by omega]; exact he, ?_⟩
    · obtain ⟨q1, q2, q3, q4⟩ := plL_gap hj
      have hj1 : j ≤ fh 0 - 1 := by
        rcases Nat.lt_or_ge (fh 0 - 1) j with q | q
        · have := q2 _ q; rw [l3] at this; cases this
        · exact q
      have := l4 (j + 1) (by omega) (by omega) (by rw [Nat.add_sub_cancel]; exact q3 (by omega))
      omega
    · have e : s.put (fh 0 - 1) = s.reuse (fh 0) := by unfold DS.put DS.reuse; rw [show max s.np (fh 0 - 1 + 1) = s.np from by omega]
      rw [e]
      refine h.code hb g1 g2 hd f (fun i q => q) (fun i q => .inl ?_) h.bd
      rcases q with q | q | q | q
      · exact .inl q
      · exact .inr (.inl q)
      · exact .inr (.inr (.inl q))
      · exact .inr (.inr (.inr (ho i q)))

/-! ### The document's calls -/
end
end Go.Proofs.YtmpjnphnljakiaaGreatDoor
namespace Go.Proofs.YtmpjnphnljakiaaGreatDoor
open Go.RowKit Go.Maps
set_option linter.unusedVariables false

section
variable {w0 w w' w1 : World} {db rb m m' c mb nf ob : Nat} {s : DS} {r : RS} {pv fv lv nv sv : Value} {fh : Nat → Nat}
def rdS (s : DS) (k : Nat) : DS := { s.copy with rd := k }
theorem rdS_read (s : DS) (k : Nat) {id : Nat} (h1 : 1 ≤ id) (h2 : id ≤ s.np) (h3 : (s.pg (id - 1)).1 = true) : (rdS s k).read id = (((s.pg (id - 1)).2, 0), rdS s (k + 1)) := by
  have hh : (rdS s k).has id = true := by unfold DS.has rdS DS.copy; simp [h1, h2, h3]
  unfold DS.read DS.att
  rw [hh]
  simp [rdS, DS.copy]
theorem plL_get {pg : Nat → Bool × Nat} {n : Nat} {p : Nat × Nat} (h : p ∈ plL pg n) : 1 ≤ p.1 ∧ p.1 ≤ n ∧ (pg (p.1 - 1)).1 = true ∧ (pg (p.1 - 1)).2 = p.2 := by
  unfold plL at h
  obtain ⟨i, _, h2, h3, rfl⟩ := plR_mem.1 h
  refine ⟨by show 1 ≤ i + 1; omega, by show i + 1 ≤ n; omega, ?_, ?_⟩
  · show (pg (i + 1 - 1)).1 = true; rw [Nat.add_sub_cancel]; exact h3
  · show (pg (i + 1 - 1)).2 = _; rw [Nat.add_sub_cancel]
end
end Go.Proofs.YtmpjnphnljakiaaGreatDoor
namespace Go.Proofs.YtmpjnphnljakiaaGreatDoor
open Go.RowKit Go.Maps
set_option linter.unusedVariables false

/-- A Disk made since w, with so many freed ids. -/
def DN (w w' : World) (db : Nat) (s : DS) (nf : Nat) : Prop := ∃ c pv fv mb fh, DC w' db s c pv fv mb fh nf ∧ (∀ i, FD db pv fv mb i → w.heap.size ≤ i) ∧ Fr NoF w w'
section
variable {w w1 : World} {db nf : Nat} {s : DS}
theorem dn_new (room : Nat) (w : World) (h1 : 1 ≤ room) (h2 : room ≤ 65535) : Calls Tryz.prog 4 #[.int .i64 room] w fun e w' => ∃ db, e = .returned (.tuple #[.pointer (some ⟨db, 0, none⟩), .int .i64 0]) ∧ DN w w' db (dk0 room) 0 := by
  refine (dk_new_yes room w h1 h2).mono ?_
  rintro e w' ⟨db, pv, fv, mb, rfl, h, hF, f⟩
  exact ⟨db, rfl, 0, pv, fv, mb, _, h, hF, f⟩
theorem dn_full (h : DN w w1 db s 0) (hr : ¬ s.np < s.room) : Calls Tryz.prog 47 #[.pointer (some ⟨db, 0, none⟩)] w1 fun e w' => e = .returned (.tuple #[.int .u32 0, .int .i64 2]) ∧ DN w w' db s 0 := by
  obtain ⟨c, pv, fv, mb, fh, h, hF, f⟩ := h
  refine (dk_alloc_full h hr).mono ?_
  rintro e w' ⟨rfl, d, rfl⟩
  exact ⟨rfl, c, pv, fv, mb, fh, h.fr0 ((Fr.refl NoF _).drewN d), hF, f.drewN d⟩
theorem dn_grow (h : DN w w1 db s 0) (hr : s.np < s.room) : Calls Tryz.prog 47 #[.pointer (some ⟨db, 0, none⟩)] w1 fun e w' => e = .returned (.tuple #[.int .u32 (s.np + 1 : Nat), .int .i64 0]) ∧ DN w w' db s.grow 0 := by
  obtain ⟨c, pv, fv, mb, fh, h, hF, f⟩ := h
  refine (dk_alloc_new h hr).mono ?_
  rintro e w' ⟨rfl, ⟨pv', h', ho⟩, f'⟩
  refine ⟨rfl, c, pv', fv, mb, fh, h', fun i q => ?_, f.trans f' (fun i q => .inr (hF i (by rcases q with q | q; exact .inl q; exact .inr (.inr (.inl q)))))⟩
  rcases q with q | q | q | q
  · exact hF i (.inl q)
  · exact hF i (.inr (.inl q))
  · rcases ho i q with q | q
    · exact hF i (.inr (.inr (.inl q)))
    · exact Nat.le_trans f.size q
  · exact hF i (.inr (.inr (.inr q)))
theorem dn_write (h : DN w w1 db s nf) {id : Nat} (hu : isU32 id) (v : Nat) (hwr : s.wr + 1 < 1000000000) : Calls Tryz.prog 76 #[.pointer (some ⟨db, 0, none⟩), .int .u32 id, .int .u64 v] w1 fun e w' => e = .returned (.int .i64 (s.write id v).1) ∧ DN w w' db (s.write id v).2 nf := by
  obtain ⟨c, pv, fv, mb, fh, h, hF, f⟩ := h
  refine (dk_write h hu v hwr).mono ?_
  rintro e w' ⟨rfl, ⟨c', _, h'⟩, f'⟩
  exact ⟨rfl, c', pv, fv, mb, fh, h', hF, f.trans f' (fun i q => .inr (hF i (by rcases q with q | q | q; exact .inl q; exact .inr (.inl q); exact .inr (.inr (.inl q)))))⟩
theorem dn_read (h : DN w w1 db s nf) {id : Nat} (hu : isU32 id) (hrd : s.rd + 1 < 1000000000) : Calls Tryz.prog 52 #[.pointer (some ⟨db, 0, none⟩), .int .u32 id] w1 fun e w' => e = .returned (.tuple #[.int .u64 (s.read id).1.1, .int .i64 (s.read id).1.2]) ∧ DN w w' db (s.read id).2 nf := by
  obtain ⟨c, pv, fv, mb, fh, h, hF, f⟩ := h
  refine (dk_read h hu hrd).mono ?_
  rintro e w' ⟨rfl, ⟨c', _, h'⟩, f'⟩
  exact ⟨rfl, c', pv, fv, mb, fh, h', hF, f.trans f' (fun i q => .inr (hF i (by rcases q with q | q; exact .inl q; exact .inr (.inl q))))⟩
theorem dn_free (h : DN w w1 db s nf) {id : Nat} (hu : isU32 id) (hh : s.has id = true) : Calls Tryz.prog 49 #[.pointer (some ⟨db, 0, none⟩), .int .u32 id] w1 fun e w' => e = .returned (.int .i64 0) ∧ DN w w' db (s.gone id) (nf + 1) := by
  obtain ⟨c, pv, fv, mb, fh, h, hF, f⟩ := h
  refine (dk_free_yes h hu hh).mono ?_
  rintro e w' ⟨rfl, ⟨fv', h', ho⟩, f'⟩
  refine ⟨rfl, c, pv, fv', mb, _, h', fun i q => ?_, f.trans f' (fun i q => .inr (hF i q))⟩
  rcases q with q | q | q | q
  · exact hF i (.inl q)
  · exact hF i (.inr (.inl q))
  · exact hF i (.inr (.inr (.inl q)))
  · rcases ho i q with q | q
    · exact hF i (.inr (.inr (.inr q)))
    · exact Nat.le_trans f.size q
end
def tk2 : DS := (dk0 2).grow.grow
def tk3 : DS := (tk2.write 2 9).2
def tk4 : DS := (tk3.read 2).2
/-! ### Of none nothing is told -/
theorem nil_has (id : Nat) (w : World) : Calls Tryz.prog 67 #[.pointer none, .int .u32 id] w fun e w' => e = .returned (.bool false) ∧ w = w' := by
  go_enter Tryz.func67, Tryz.ntmps67
  go_wp2
  go_returns
  exact ⟨rfl, rfl⟩
theorem nil_attempt (id : Nat) (b : Bool) (w : World) : Calls Tryz.prog 73 #[.pointer none, .agg #[.int .u32 id, .bool b]] w fun e w' => e = .returned (.int .i64 3) ∧ Fr NoF w w' := by
  go_enter Tryz.func73, Tryz.ntmps73
  go_wp2_with fail
  refine (nil_has id _).mono ?_
  rintro e w' ⟨rfl, rfl⟩
  go_wp2
  go_returns
  exact ⟨rfl, (Fr.refl _ _).alloc _⟩
theorem nil_alloc (w : World) : Calls Tryz.prog 47 #[.pointer none] w fun e w' => e = .returned (.tuple #[.int .u32 0, .int .i64 2]) ∧ w = w' := by
  go_enter Tryz.func47, Tryz.ntmps47
  go_wp2
  go_returns
  exact ⟨rfl, rfl⟩
theorem nil_free (id : Nat) (w : World) : Calls Tryz.prog 49 #[.pointer none, .int .u32 id] w fun e w' => e = .returned (.int .i64 3) ∧ w = w' := by
  go_enter Tryz.func49, Tryz.ntmps49
  go_wp2_with fail
  refine (nil_has id _).mono ?_
  rintro e w' ⟨rfl, rfl⟩
  go_wp2
  go_returns
  exact ⟨rfl, rfl⟩
theorem nil_read (id : Nat) (w : World) : Calls Tryz.prog 52 #[.pointer none, .int .u32 id] w fun e w' => e = .returned (.tuple #[.int .u64 0, .int .i64 3]) ∧ Fr NoF w w' := by
  go_enter Tryz.func52, Tryz.ntmps52
  go_wp2_with fail
  refine (nil_attempt id false w).mono ?_
  rintro e w' ⟨rfl, h⟩
  have H := Lib.hid h
  clear h
  go_wp2
  go_returns
  exact ⟨rfl, H.out⟩
theorem nil_write (id v : Nat) (w : World) : Calls Tryz.prog 76 #[.pointer none, .int .u32 id, .int .u64 v] w fun e w' => e = .returned (.int .i64 3) ∧ Fr NoF w w' := by
  go_enter Tryz.func76, Tryz.ntmps76
  go_wp2_with fail
  refine (nil_attempt id true w).mono ?_
  rintro e w' ⟨rfl, h⟩
  have H := Lib.hid h
  clear h
  go_wp2
  go_returns
  exact ⟨rfl, H.out⟩
theorem nil_fail (id : Nat) (b : Bool) (t : Int) (w : World) : Calls Tryz.prog 85 #[.pointer none, .int .u32 id, .bool b, .int .i64 t] w fun e w' => e = .returned (.tuple #[]) ∧ w = w' := by
  go_enter Tryz.func85, Tryz.ntmps85
  go_wp2
  go_returns
  exact ⟨rfl, rfl⟩
theorem nil_pages (w : World) : Calls Tryz.prog 17 #[.pointer none] w fun e w' => e = .returned (.slice none 0 0) ∧ w = w' := by
  go_enter Tryz.func17, Tryz.ntmps17
  go_wp2
  go_returns
  exact ⟨rfl, rfl⟩
end Go.Proofs.YtmpjnphnljakiaaGreatDoor

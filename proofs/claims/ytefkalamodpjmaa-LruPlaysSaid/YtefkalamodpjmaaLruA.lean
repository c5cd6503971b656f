/-
  LRU in memory: a block for the head, the rows, one for what is evictable; and the list of frames that it stands for. Its calls.
-/
import Derived.Test.YtefkalamodpjmaaRingG
import Derived.Test.YtefkalamodpjmaaSl
import Derived.Handy
namespace Go.Proofs.Ytefkalamodpjmaa
open Go.RowKit
set_option linter.unusedVariables false

def cntL (l : List Nat) (ev : Nat → Bool) : Nat := (l.filter ev).length
def lruH (rb eb n sz : Nat) : Nat → Value
  | 0 => .pointer (some ⟨rb, 0, none⟩)
  | 1 => .slice (some ⟨eb, 0, none⟩) n n
  | 2 => .int .i64 sz
  | _ => .int .i64 0
structure LC (w : World) (b rb eb n : Nat) (l : List Nat) (ev : Nat → Bool) (FR : Nat → Prop) : Prop where
  hd : Blk w b 3 (lruH rb eb n (cntL l ev))
  be : Blk w eb n (bF ev)
  rr : RR w rb n 1 [l] FR
  d1 : ¬ b = eb
  d2 : ¬ FR b
  d3 : ¬ FR eb
  out : ∀ f, ev f = true → f ∈ l
  hn : n ≤ 65535

/-- An LRU of n frames at block b: frames l, the one not touched for longest first; ev: which may go; F: its blocks. -/
def LR (w : World) (b n : Nat) (l : List Nat) (ev : Nat → Bool) (F : Nat → Prop) : Prop :=
  ∃ rb eb FR, LC w b rb eb n l ev FR ∧ ∀ i, F i ↔ i = b ∨ i = eb ∨ FR i

theorem RR.row0 {w : World} {b n : Nat} {l : List Nat} {F : Nat → Prop} (h : RR w b n 1 [l] F) : l.Nodup ∧ ∀ x ∈ l, x < n := by
  obtain ⟨nb, lb, rw, nx, pv, ls, hc, hi, hF⟩ := h.ex
  exact ⟨hi.nd 0 l rfl, fun x hx => (hi.mem 0 l rfl x hx).1⟩
theorem LC.fr {w w' : World} {b rb eb n : Nat} {l : List Nat} {ev : Nat → Bool} {FR G : Nat → Prop} (h : LC w b rb eb n l ev FR) (f : Fr G w w') (h1 : ¬ G b) (h2 : ¬ G eb) (h3 : ∀ i, FR i → ¬ G i) : LC w' b rb eb n l ev FR :=
  ⟨h.hd.fr f h1, h.be.fr f h2, h.rr.fr f h3, h.d1, h.d2, h.d3, h.out, h.hn⟩
theorem LR.fr {w w' : World} {b n : Nat} {l : List Nat} {ev : Nat → Bool} {F G : Nat → Prop} (h : LR w b n l ev F) (f : Fr G w w') (hd : ∀ i, F i → ¬ G i) : LR w' b n l ev F := by
  obtain ⟨rb, eb, FR, hc, hF⟩ := h
  exact ⟨rb, eb, FR, hc.fr f (hd b ((hF b).2 (.inl rfl))) (hd eb ((hF eb).2 (.inr (.inl rfl)))) (fun i hi => hd i ((hF i).2 (.inr (.inr hi)))), hF⟩
theorem LR.lt {w : World} {b n : Nat} {l : List Nat} {ev : Nat → Bool} {F : Nat → Prop} (h : LR w b n l ev F) : ∀ i, F i → i < w.heap.size := by
  obtain ⟨rb, eb, FR, hc, hF⟩ := h
  intro i hi
  rcases (hF i).1 hi with rfl | rfl | q
  · exact hc.hd.lt
  · exact hc.be.lt
  · exact hc.rr.lt i q
theorem LR.frames {w : World} {b n : Nat} {l : List Nat} {ev : Nat → Bool} {F : Nat → Prop} (h : LR w b n l ev F) : l.Nodup ∧ (∀ x ∈ l, x < n) ∧ n ≤ 65535 ∧ ∀ f, ev f = true → f ∈ l := by
  obtain ⟨rb, eb, FR, hc, hF⟩ := h
  exact ⟨hc.rr.row0.1, hc.rr.row0.2, hc.hn, hc.out⟩

/-! ### Lists -/
def awayL (l : List Nat) (f : Nat) : List Nat := l.filter fun y => !decide (y = f)
def backL (l : List Nat) (f : Nat) : List Nat := awayL l f ++ [f]
theorem rowIx1 (l : List Nat) (x : Nat) : rowIx [l] x = if x ∈ l then some 0 else none := by
  by_cases h : x ∈ l <;> simp [rowIx, List.findIdx?_cons, h]
theorem outL1 (l : List Nat) (x : Nat) : outL [l] x = [awayL l x] := by
  by_cases h : x ∈ l
  · simp [outL, rowIx1, h, awayL]
  · simp only [outL, rowIx1, if_neg h, awayL, filter_not h]
theorem putL1 (l : List Nat) (x : Nat) : putL [l] 0 x false = [backL l x] := by
  simp [putL, outL1, backL]
theorem mem_away {l : List Nat} {f x : Nat} : x ∈ awayL l f ↔ x ∈ l ∧ ¬ x = f := by simp [awayL]
theorem mem_back {l : List Nat} {f x : Nat} : x ∈ backL l f ↔ x ∈ l ∨ x = f := by
  simp only [backL, List.mem_append, mem_away, List.mem_singleton]
  by_cases e : x = f <;> simp [e]
theorem cnt_away {l : List Nat} (hn : l.Nodup) (ev : Nat → Bool) (f : Nat) : cntL (awayL l f) ev + (if f ∈ l ∧ ev f = true then 1 else 0) = cntL l ev := by
  induction l with
  | nil => simp [awayL, cntL]
  | cons a l ih =>
    have hn' := List.nodup_cons.1 hn
    have ih := ih hn'.2
    by_cases e : a = f
    · subst e
      have e2 : awayL (a :: l) a = l := by
        have : awayL (a :: l) a = awayL l a := by simp [awayL]
        rw [this]; exact filter_not hn'.1
      rw [e2]
      by_cases h : ev a = true <;> simp [cntL, h]
    · have e2 : awayL (a :: l) f = a :: awayL l f := by simp [awayL, e]
      rw [e2]
      have e3 : (f ∈ a :: l ∧ ev f = true) ↔ (f ∈ l ∧ ev f = true) := by simp [show ¬ f = a from fun q => e q.symm]
      have e4 : ∀ l', cntL (a :: l') ev = cntL l' ev + (if ev a = true then 1 else 0) := by
        intro l'; by_cases h : ev a = true <;> simp [cntL, h]
      rw [e4, e4]
      simp only [e3]
      omega
theorem cnt_append (l l' : List Nat) (ev : Nat → Bool) : cntL (l ++ l') ev = cntL l ev + cntL l' ev := by simp [cntL]
theorem cnt_back {l : List Nat} (hn : l.Nodup) (ev : Nat → Bool) (f : Nat) (ho : ev f = true → f ∈ l) : cntL (backL l f) ev = cntL l ev := by
  have := cnt_away hn ev f
  rw [backL, cnt_append]
  by_cases h : ev f = true
  · have hm := ho h
    rw [if_pos ⟨hm, h⟩] at this
    rw [← this]; simp [cntL, h]
  · rw [if_neg (fun q => h q.2)] at this
    rw [← this]; simp [cntL, h]
theorem cnt_upd_not {l : List Nat} (ev : Nat → Bool) (f : Nat) (v : Bool) (h : ¬ f ∈ l) : cntL l (upd ev f v) = cntL l ev := by
  unfold cntL
  congr 1
  apply List.filter_congr
  intro x hx
  rw [upd_other]
  intro e; exact h (e ▸ hx)
theorem cnt_upd {l : List Nat} (hn : l.Nodup) (ev : Nat → Bool) (f : Nat) (v : Bool) (h : f ∈ l) : cntL l (upd ev f v) + (if ev f = true then 1 else 0) = cntL l ev + (if v = true then 1 else 0) := by
  have h1 := cnt_away hn ev f
  have h2 := cnt_away hn (upd ev f v) f
  rw [cnt_upd_not _ _ _ (by simp [mem_away])] at h2
  simp only [upd_same, h, true_and] at h1 h2
  omega
theorem cnt_le (l : List Nat) (ev : Nat → Bool) : cntL l ev ≤ l.length := List.length_filter_le _ _
theorem RR.len0 {w : World} {b n : Nat} {l : List Nat} {F : Nat → Prop} (h : RR w b n 1 [l] F) : l.length ≤ n := by
  have := List.Nodup.length_le_of_subset (l₁ := l) (l₂ := List.range n) h.row0.1 (fun y hy => List.mem_range.2 (h.row0.2 y hy))
  simpa using this

section
variable {w : World} {b rb eb n : Nat} {l : List Nat} {ev : Nat → Bool} {F FR : Nat → Prop}
theorem LC.c0 (h : LC w b rb eb n l ev FR) : w.cell? ⟨b, 0, none⟩ = some (.pointer (some ⟨rb, 0, none⟩)) := h.hd.cell (by omega)
theorem LC.c1 (h : LC w b rb eb n l ev FR) : w.cell? ⟨b, 1, none⟩ = some (.slice (some ⟨eb, 0, none⟩) n n) := h.hd.cell (by omega)
theorem LC.c2 (h : LC w b rb eb n l ev FR) : w.cell? ⟨b, 2, none⟩ = some (.int .i64 (cntL l ev : Nat)) := h.hd.cell (by omega)
theorem LC.ce (h : LC w b rb eb n l ev FR) {f : Nat} (hf : f < n) : w.cell? ⟨eb, f, none⟩ = some (.bool (ev f)) := h.be.cell hf

theorem lru_miss (a : Option Addr) (p : Int) : Calls Try.prog 13 #[.pointer a, .int .u32 p] w fun e w' => e = .returned (.tuple #[]) ∧ w = w' := by
  go_enter Try.func13, Try.ntmps13
  go_wp2
  go_end0
  exact ⟨rfl, rfl⟩
theorem lru_ghosts (a : Option Addr) : Calls Try.prog 18 #[.pointer a] w fun e w' => e = .returned (.slice none 0 0) ∧ w = w' := by
  go_enter Try.func18, Try.ntmps18
  go_wp2
  go_ret
  exact ⟨rfl, rfl⟩
theorem lru_size (h : LC w b rb eb n l ev FR) : Calls Try.prog 17 #[.pointer (some ⟨b, 0, none⟩)] w fun e w' => e = .returned (.int .i64 (cntL l ev : Nat)) ∧ w = w' := by
  have c2 := h.c2
  go_enter Try.func17, Try.ntmps17
  go_wp2
  go_ret
  exact ⟨rfl, rfl⟩
end
end Go.Proofs.Ytefkalamodpjmaa

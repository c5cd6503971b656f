/-
  Rows in memory: a block for the head, one for the nodes, one for the lengths; and the lists that they stand for.
-/
import Derived.Test.YtoainbdkhhblbaaK11
namespace Go.Proofs.Ytoainbdkhhblbaa
open Go.RowKit
set_option linter.unusedVariables false

/-- The row in which a thing is. -/
def rowIx (L : List (List Nat)) (x : Nat) : Option Nat := L.findIdx? (fun l => decide (x ∈ l))
/-- The thing goes out of its row. -/
def outL (L : List (List Nat)) (x : Nat) : List (List Nat) := match rowIx L x with
  | none => L
  | some k => L.set k ((L.getD k []).filter fun y => !decide (y = x))
/-- The thing comes to a row's beginning, or its end. -/
def putL (L : List (List Nat)) (k x : Nat) (front : Bool) : List (List Nat) :=
  (outL L x).set k (if front then x :: (outL L x).getD k [] else (outL L x).getD k [] ++ [x])
/-- The thing comes just ahead of another one. -/
def insL (l : List Nat) (x o : Nat) : List Nat := l.takeWhile (fun y => !decide (y = o)) ++ x :: l.dropWhile (fun y => !decide (y = o))
def befL (L : List (List Nat)) (x o : Nat) : List (List Nat) := match rowIx L o with
  | none => L
  | some k => (outL L x).set k (insL ((outL L x).getD k []) x o)

theorem rowIx_some {L : List (List Nat)} {x k : Nat} (h : rowIx L x = some k) : ∃ l, L[k]? = some l ∧ x ∈ l := by
  obtain ⟨hk, h1, _⟩ := List.findIdx?_eq_some_iff_getElem.1 h
  exact ⟨_, List.getElem?_eq_getElem hk, by simpa using h1⟩
theorem rowIx_none {L : List (List Nat)} {x : Nat} (h : rowIx L x = none) : ∀ (k : Nat) (l : List Nat), L[k]? = some l → ¬ x ∈ l := by
  intro k l hl
  have := List.findIdx?_eq_none_iff.1 h l (List.mem_of_getElem? hl)
  simpa using this

section
variable {n m : Nat} {rw nx pv ls : Nat → Nat} {L : List (List Nat)}
theorem RInv.rowIx_of (h : RInv n m rw nx pv ls L) {k : Nat} {l : List Nat} (hl : L[k]? = some l) {x : Nat} (hx : x ∈ l) : rowIx L x = some k := by
  cases e : rowIx L x with
  | none => exact (rowIx_none e k l hl hx).elim
  | some j =>
    obtain ⟨l', hj, hx'⟩ := rowIx_some e
    have h1 := (h.mem k l hl x hx).2
    have h2 := (h.mem j l' hj x hx').2
    congr 1; omega
theorem RInv.rowIx_row (h : RInv n m rw nx pv ls L) {k : Nat} {x : Nat} (e : rowIx L x = some k) : x < n ∧ rw x = k + 1 ∧ k < m := by
  obtain ⟨l, hl, hx⟩ := rowIx_some e
  exact ⟨(h.mem k l hl x hx).1, (h.mem k l hl x hx).2, h.k_lt hl⟩
theorem RInv.row_none (h : RInv n m rw nx pv ls L) {x : Nat} (hx : x < n) (e : rowIx L x = none) : rw x = 0 := by
  rcases h.out x hx with q | ⟨k, l, hl, hm⟩
  · exact q
  · exact (rowIx_none e k l hl hm).elim
theorem RInv.split (h : RInv n m rw nx pv ls L) {k : Nat} {x : Nat} (e : rowIx L x = some k) : ∃ l1 l2, L[k]? = some (l1 ++ x :: l2) := by
  obtain ⟨l, hl, hx⟩ := rowIx_some e
  obtain ⟨l1, l2, rfl⟩ := List.append_of_mem hx
  exact ⟨l1, l2, hl⟩
theorem RInv.split_not (h : RInv n m rw nx pv ls L) {k : Nat} {x : Nat} {l1 l2 : List Nat} (hl : L[k]? = some (l1 ++ x :: l2)) : (¬ x ∈ l1) ∧ ¬ x ∈ l2 := by
  have hnd := h.nd k _ hl
  rw [List.nodup_append] at hnd
  exact ⟨fun q => hnd.2.2 x q x (by simp) rfl, (List.nodup_cons.1 hnd.2.1).1⟩
theorem filter_not {l : List Nat} {x : Nat} (h : ¬ x ∈ l) : (l.filter fun y => !decide (y = x)) = l := by
  rw [List.filter_eq_self]
  intro a ha
  have : ¬ a = x := fun e => h (e ▸ ha)
  simp [this]
theorem RInv.outL_eq (h : RInv n m rw nx pv ls L) {k : Nat} {x : Nat} {l1 l2 : List Nat} (hl : L[k]? = some (l1 ++ x :: l2)) : outL L x = L.set k (l1 ++ l2) := by
  have e := h.rowIx_of hl (x := x) (by simp)
  obtain ⟨q1, q2⟩ := h.split_not hl
  simp [outL, e, List.getD_eq_getElem?_getD, hl, List.filter_append, filter_not q1, filter_not q2]
theorem RInv.rowIx_out (h : RInv n m rw nx pv ls L) (x : Nat) : rowIx (outL L x) x = none := by
  cases e : rowIx L x with
  | none => simp [outL, e]
  | some k =>
    obtain ⟨l1, l2, hl⟩ := h.split e
    rw [h.outL_eq hl]
    have q := h.split_not hl
    unfold rowIx
    rw [List.findIdx?_eq_none_iff]
    intro l hm
    obtain ⟨j, hj⟩ := List.getElem?_of_mem hm
    rcases RInv.set_get hj with ⟨rfl, rfl⟩ | ⟨hjk, hj'⟩
    · simp [q]
    · have hx : ¬ x ∈ l := by
        intro hx
        have h1 := (h.mem j l hj' x hx).2
        have h2 := (h.rowIx_row e).2.1
        omega
      simpa using hx
theorem insL_eq {l1 l2 : List Nat} {x o : Nat} (h : ¬ o ∈ l1) : insL (l1 ++ o :: l2) x o = l1 ++ x :: o :: l2 := by
  have ha : ∀ (l : List Nat), (¬ o ∈ l) → (l ++ o :: l2).takeWhile (fun y => !decide (y = o)) = l ∧ (l ++ o :: l2).dropWhile (fun y => !decide (y = o)) = o :: l2 := by
    intro l
    induction l with
    | nil => intro _; simp
    | cons a l ih =>
      intro hl
      have ha : ¬ a = o := fun e => hl (by simp [e])
      have := ih (fun q => hl (by simp [q]))
      simp [ha, this]
  simp [insL, ha l1 h]
end

/-! ### In memory -/
def hdF (n m nb lb : Nat) : Nat → Value
  | 0 => .int .i64 n
  | 1 => .slice (some ⟨nb, 0, none⟩) (n + m) (n + m)
  | _ => .slice (some ⟨lb, 0, none⟩) m m
def ndF (rw nx pv : Nat → Nat) (i : Nat) : Value := .int .i64 (if i % 3 = 0 then rw (i / 3) else if i % 3 = 1 then nx (i / 3) else pv (i / 3) : Nat)
def lnF (ls : Nat → Nat) (i : Nat) : Value := .int .i64 (ls i : Nat)

theorem ndF_row (rw nx pv : Nat → Nat) (i : Nat) : ndF rw nx pv (i * 3) = .int .i64 (rw i : Nat) := by
  have h1 : i * 3 % 3 = 0 := by omega
  have h2 : i * 3 / 3 = i := by omega
  simp [ndF, h1, h2]
theorem ndF_next (rw nx pv : Nat → Nat) (i : Nat) : ndF rw nx pv (i * 3 + 1) = .int .i64 (nx i : Nat) := by
  have h1 : (i * 3 + 1) % 3 = 1 := by omega
  have h2 : (i * 3 + 1) / 3 = i := by omega
  simp [ndF, h1, h2]
theorem ndF_prev (rw nx pv : Nat → Nat) (i : Nat) : ndF rw nx pv (i * 3 + 2) = .int .i64 (pv i : Nat) := by
  have h1 : (i * 3 + 2) % 3 = 2 := by omega
  have h2 : (i * 3 + 2) / 3 = i := by omega
  simp [ndF, h1, h2]
theorem ndF_setRow (rw nx pv : Nat → Nat) (i v : Nat) : upd (ndF rw nx pv) (i * 3) (.int .i64 (v : Nat)) = ndF (upd rw i v) nx pv := by
  funext j
  by_cases e : j = i * 3
  · subst e; rw [upd_same, ndF_row, upd_same]
  · rw [upd_other _ _ e]
    unfold ndF
    by_cases h0 : j % 3 = 0
    · have : ¬ j / 3 = i := by omega
      simp [h0, upd_other _ _ this]
    · simp [h0]
theorem ndF_setNext (rw nx pv : Nat → Nat) (i v : Nat) : upd (ndF rw nx pv) (i * 3 + 1) (.int .i64 (v : Nat)) = ndF rw (upd nx i v) pv := by
  funext j
  by_cases e : j = i * 3 + 1
  · subst e; rw [upd_same, ndF_next, upd_same]
  · rw [upd_other _ _ e]
    unfold ndF
    by_cases h0 : j % 3 = 0
    · simp [h0]
    · by_cases h1 : j % 3 = 1
      · have : ¬ j / 3 = i := by omega
        simp [h1, upd_other _ _ this]
      · simp [h0, h1]
theorem ndF_setPrev (rw nx pv : Nat → Nat) (i v : Nat) : upd (ndF rw nx pv) (i * 3 + 2) (.int .i64 (v : Nat)) = ndF rw nx (upd pv i v) := by
  funext j
  by_cases e : j = i * 3 + 2
  · subst e; rw [upd_same, ndF_prev, upd_same]
  · rw [upd_other _ _ e]
    unfold ndF
    by_cases h0 : j % 3 = 0
    · simp [h0]
    · by_cases h1 : j % 3 = 1
      · simp [h1]
      · have : ¬ j / 3 = i := by omega
        simp [h0, h1, upd_other _ _ this]

/-- The three blocks. -/
structure RC (w : World) (b nb lb n m : Nat) (rw nx pv ls : Nat → Nat) : Prop where
  hd : Blk w b 3 (hdF n m nb lb)
  nd : Blk w nb ((n + m) * 3) (ndF rw nx pv)
  ln : Blk w lb m (lnF ls)
  d1 : ¬ b = nb
  d2 : ¬ b = lb
  d3 : ¬ nb = lb
  hn : n ≤ 200000
  hm : m ≤ 16

section
variable {w w' : World} {b nb lb n m : Nat} {rw nx pv ls : Nat → Nat}
theorem RC.c0 (h : RC w b nb lb n m rw nx pv ls) : w.cell? ⟨b, 0, none⟩ = some (.int .i64 n) := h.hd.cell (by omega)
theorem RC.c1 (h : RC w b nb lb n m rw nx pv ls) : w.cell? ⟨b, 1, none⟩ = some (.slice (some ⟨nb, 0, none⟩) (n + m) (n + m)) := h.hd.cell (by omega)
theorem RC.c2 (h : RC w b nb lb n m rw nx pv ls) : w.cell? ⟨b, 2, none⟩ = some (.slice (some ⟨lb, 0, none⟩) m m) := h.hd.cell (by omega)
theorem RC.row (h : RC w b nb lb n m rw nx pv ls) {i : Nat} (hi : i < n + m) : w.cell? ⟨nb, i * 3, none⟩ = some (.int .i64 (rw i : Nat)) := by
  rw [h.nd.cell (by omega), ndF_row]
theorem RC.next (h : RC w b nb lb n m rw nx pv ls) {i : Nat} (hi : i < n + m) : w.cell? ⟨nb, i * 3 + 1, none⟩ = some (.int .i64 (nx i : Nat)) := by
  rw [h.nd.cell (by omega), ndF_next]
theorem RC.prev (h : RC w b nb lb n m rw nx pv ls) {i : Nat} (hi : i < n + m) : w.cell? ⟨nb, i * 3 + 2, none⟩ = some (.int .i64 (pv i : Nat)) := by
  rw [h.nd.cell (by omega), ndF_prev]
theorem RC.len (h : RC w b nb lb n m rw nx pv ls) {i : Nat} (hi : i < m) : w.cell? ⟨lb, i, none⟩ = some (.int .i64 (ls i : Nat)) := h.ln.cell hi
theorem RC.setRow (h : RC w b nb lb n m rw nx pv ls) (i v : Nat) {z : Int} (hz : z = (v : Int)) : RC (w.setCell ⟨nb, i * 3, none⟩ (.int .i64 z)) b nb lb n m (upd rw i v) nx pv ls := by
  subst hz
  exact ⟨h.hd.other h.d1 _, by rw [← ndF_setRow]; exact h.nd.set _ _, h.ln.other (fun e => h.d3 e.symm) _, h.d1, h.d2, h.d3, h.hn, h.hm⟩
theorem RC.setNext (h : RC w b nb lb n m rw nx pv ls) (i v : Nat) {z : Int} (hz : z = (v : Int)) : RC (w.setCell ⟨nb, i * 3 + 1, none⟩ (.int .i64 z)) b nb lb n m rw (upd nx i v) pv ls := by
  subst hz
  exact ⟨h.hd.other h.d1 _, by rw [← ndF_setNext]; exact h.nd.set _ _, h.ln.other (fun e => h.d3 e.symm) _, h.d1, h.d2, h.d3, h.hn, h.hm⟩
theorem RC.setPrev (h : RC w b nb lb n m rw nx pv ls) (i v : Nat) {z : Int} (hz : z = (v : Int)) : RC (w.setCell ⟨nb, i * 3 + 2, none⟩ (.int .i64 z)) b nb lb n m rw nx (upd pv i v) ls := by
  subst hz
  exact ⟨h.hd.other h.d1 _, by rw [← ndF_setPrev]; exact h.nd.set _ _, h.ln.other (fun e => h.d3 e.symm) _, h.d1, h.d2, h.d3, h.hn, h.hm⟩
theorem lnF_set (ls : Nat → Nat) (i v : Nat) : upd (lnF ls) i (.int .i64 (v : Nat)) = lnF (upd ls i v) := by
  funext j
  by_cases e : j = i
  · subst e; simp [upd_same, lnF]
  · rw [upd_other _ _ e]; simp [lnF, upd_other _ _ e]
theorem RC.setLen (h : RC w b nb lb n m rw nx pv ls) (i v : Nat) {z : Int} (hz : z = (v : Int)) : RC (w.setCell ⟨lb, i, none⟩ (.int .i64 z)) b nb lb n m rw nx pv (upd ls i v) := by
  subst hz
  exact ⟨h.hd.other h.d2 _, h.nd.other h.d3 _, by rw [← lnF_set]; exact h.ln.set _ _, h.d1, h.d2, h.d3, h.hn, h.hm⟩
theorem RC.alloc (h : RC w b nb lb n m rw nx pv ls) (o : Obj) : RC (w.alloc o) b nb lb n m rw nx pv ls :=
  ⟨h.hd.alloc o, h.nd.alloc o, h.ln.alloc o, h.d1, h.d2, h.d3, h.hn, h.hm⟩
theorem RC.drew (h : RC w b nb lb n m rw nx pv ls) : RC w.drew b nb lb n m rw nx pv ls :=
  ⟨h.hd.drew, h.nd.drew, h.ln.drew, h.d1, h.d2, h.d3, h.hn, h.hm⟩
theorem RC.fr (h : RC w b nb lb n m rw nx pv ls) {F : Nat → Prop} (f : Fr F w w') (h1 : ¬ F b) (h2 : ¬ F nb) (h3 : ¬ F lb) : RC w' b nb lb n m rw nx pv ls :=
  ⟨h.hd.fr f h1, h.nd.fr f h2, h.ln.fr f h3, h.d1, h.d2, h.d3, h.hn, h.hm⟩
end

/-- Rows at block b, of n things and m rows, standing for L; F: their blocks. -/
structure RR (w : World) (b n m : Nat) (L : List (List Nat)) (F : Nat → Prop) : Prop where
  ex : ∃ nb lb rw nx pv ls, RC w b nb lb n m rw nx pv ls ∧ RInv n m rw nx pv ls L ∧ ∀ i, F i ↔ i = b ∨ i = nb ∨ i = lb

theorem RR.fr {w w' : World} {b n m : Nat} {L : List (List Nat)} {F G : Nat → Prop} (h : RR w b n m L F) (f : Fr G w w') (hd : ∀ i, F i → ¬ G i) : RR w' b n m L F := by
  obtain ⟨nb, lb, rw, nx, pv, ls, hc, hi, hF⟩ := h.ex
  exact ⟨nb, lb, rw, nx, pv, ls, hc.fr f (hd b ((hF b).2 (.inl rfl))) (hd nb ((hF nb).2 (.inr (.inl rfl)))) (hd lb ((hF lb).2 (.inr (.inr rfl)))), hi, hF⟩
theorem RR.lt {w : World} {b n m : Nat} {L : List (List Nat)} {F : Nat → Prop} (h : RR w b n m L F) : ∀ i, F i → i < w.heap.size := by
  obtain ⟨nb, lb, rw, nx, pv, ls, hc, hi, hF⟩ := h.ex
  intro i hi
  rcases (hF i).1 hi with rfl | rfl | rfl
  · exact hc.hd.lt
  · exact hc.nd.lt
  · exact hc.ln.lt
end Go.Proofs.Ytoainbdkhhblbaa

/-
  The document's own Disk in memory: Read.
-/
import Derived.Test.YtcdakiodmgdepaaDoorK32
namespace Go.Proofs.YtcdakiodmgdepaaDoor
open Go.RowKit
set_option linter.unusedVariables false

theorem failsP_len (l : List (Nat × Nat)) (id : Nat) : (failsP l id).1.length = l.length := by
  unfold failsP
  split
  · rfl
  · split
    · rfl
    · exact List.length_set
theorem failsP_u {l : List (Nat × Nat)} (h : ∀ p ∈ l, isU64 p.2) (id : Nat) : ∀ p ∈ (failsP l id).1, isU64 p.2 := by
  unfold failsP
  split
  · exact h
  · rename_i k hk
    obtain ⟨hk, _⟩ := atP_is hk
    split
    · exact h
    · intro p hp
      rcases List.mem_or_eq_of_mem_set hp with q | q
      · exact h p q
      · rw [q]
        have hg : l.getD k (0, 0) = l[k] := by simp [hk]
        rw [hg]
        have := h l[k] (List.getElem_mem hk)
        unfold isU64 at *
        show l[k].2 - 1 < _
        omega
def RS.read (s : RS) (id : Nat) : (Nat × Nat) × RS :=
  match atP s.L id with
  | none => ((0, 3), s)
  | some k => if s.stopped = true then ((0, 7), s) else if (failsP s.nr id).2 = true then ((0, 7), { s with nr := (failsP s.nr id).1 }) else (((s.L.getD k (0, 0)).2, 0), { s with rd := s.rd + 1, left := s.left - 1 })
section
variable {w w0 w' : World} {b : Nat} {s : RS} {lv nv sv : Value}
theorem rH_2 (s : RS) (lv nv sv v : Value) : upd (rH s lv nv sv) 2 v = rH s lv v sv := by
  funext j
  match j with
  | 0 | 1 | 2 | 3 | 4 | 5 | 6 | 7 => rfl
  | j + 8 => simp [upd, rH]
theorem rH_3 (s : RS) (lv nv sv v : Value) : upd (rH s lv nv sv) 3 v = rH s lv nv v := by
  funext j
  match j with
  | 0 | 1 | 2 | 3 | 4 | 5 | 6 | 7 => rfl
  | j + 8 => simp [upd, rH]
theorem rH_1 (s : RS) (lv nv sv v : Value) : upd (rH s lv nv sv) 1 v = rH s v nv sv := by
  funext j
  match j with
  | 0 | 1 | 2 | 3 | 4 | 5 | 6 | 7 => rfl
  | j + 8 => simp [upd, rH]
/-- Another list of what is to fail when read. -/
theorem RC.setN (h : RC w b s lv nv sv) {v : Value} {l : List (Nat × Nat)} (hv : SlP w v l) (hb : ∀ i, v.ownBlock = some i → ¬ i = b) (hl : l.length < 100000) (hu : ∀ p ∈ l, isU64 p.2) : RC (w.setCell ⟨b, 2, none⟩ v) b { s with nr := l } lv v sv ∧ Fr (fun k => k = b) w (w.setCell ⟨b, 2, none⟩ v) := by
  have f : Fr (fun k => k = b) w (w.setCell ⟨b, 2, none⟩ v) := (Fr.refl (fun k => k = b) w).setCell (p := ⟨b, 2, none⟩) (.inl rfl) _
  have hd := h.hd.set 2 v
  rw [rH_2] at hd
  exact ⟨⟨hd, h.hl.fr f h.n1, hv.fr f hb, h.hs.fr f h.n3, h.n1, hb, h.n3, h.b1, hl, h.b3, h.b4, h.u1, hu, h.u3⟩, f⟩
theorem RC.setS (h : RC w b s lv nv sv) {v : Value} {l : List (Nat × Nat)} (hv : SlP w v l) (hb : ∀ i, v.ownBlock = some i → ¬ i = b) (hl : l.length < 100000) (hu : ∀ p ∈ l, isU64 p.2) : RC (w.setCell ⟨b, 3, none⟩ v) b { s with ns := l } lv nv v ∧ Fr (fun k => k = b) w (w.setCell ⟨b, 3, none⟩ v) := by
  have f : Fr (fun k => k = b) w (w.setCell ⟨b, 3, none⟩ v) := (Fr.refl (fun k => k = b) w).setCell (p := ⟨b, 3, none⟩) (.inl rfl) _
  have hd := h.hd.set 3 v
  rw [rH_3] at hd
  exact ⟨⟨hd, h.hl.fr f h.n1, h.hn.fr f h.n2, hv.fr f hb, h.n1, h.n2, hb, h.b1, h.b2, hl, h.b4, h.u1, h.u2, hu⟩, f⟩
theorem RC.setL (h : RC w b s lv nv sv) {v : Value} {l : List (Nat × Nat)} (hv : SlP w v l) (hb : ∀ i, v.ownBlock = some i → ¬ i = b) (hl : l.length < 100000) (hu : ∀ p ∈ l, isU64 p.2) : RC (w.setCell ⟨b, 1, none⟩ v) b { s with L := l } v nv sv ∧ Fr (fun k => k = b) w (w.setCell ⟨b, 1, none⟩ v) := by
  have f : Fr (fun k => k = b) w (w.setCell ⟨b, 1, none⟩ v) := (Fr.refl (fun k => k = b) w).setCell (p := ⟨b, 1, none⟩) (.inl rfl) _
  have hd := h.hd.set 1 v
  rw [rH_1] at hd
  exact ⟨⟨hd, hv.fr f hb, h.hn.fr f h.n2, h.hs.fr f h.n3, hb, h.n2, h.n3, hl, h.b2, h.b3, h.b4, hu, h.u2, h.u3⟩, f⟩
end
end Go.Proofs.YtcdakiodmgdepaaDoor

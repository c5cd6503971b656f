/-
  The document's own Disk in memory: Read.
-/
import Derived.Test.YtnideelidfpicaaGreatDoorK32
namespace Go.Proofs.YtnideelidfpicaaGreatDoor
open Go.RowKit
set_option linter.unusedVariables false

theorem failsP_len (l : List (Nat × Nat)) (id : Nat) : (failsP l id).1.length = l.length := by
  unfold failsP
  split
  · rfl
  · split
    · rfl
    · exact List.length_set
theorem failsP_u {l : List (Nat × Nat)} (h : ∀ p ∈ l, isU64 p.2) (id : Nat) : ∀ p ∈ (failsP l id).1, isU64 p.2 := by
  unfold failsP
  split
  · exact h
  · rename_i k hk
    obtain ⟨hk, _⟩ := atP_is hk
    split
    · exact h
    · intro p hp
      rcases List.mem_or_eq_of_mem_set hp with q | q
      · exact h p q
      · rw [q]
        have hg : l.getD k (0, 0) = l[k] := by simp [hk]
        rw [hg]
        have := h l[k] (List.getElem_mem hk)
        unfold isU64 at *
        show l[k].2 - 1 < _
        omega
def RS.read (s : RS) (id : Nat) : (Nat × Nat) × RS :=
  match atP s.L id with
  | none => ((0, 3), s)
  | some k => if s.stopped = true then ((0, 7), s) else if (failsP s.nr id).2 = true then ((0, 7), { s with nr := (failsP s.nr id).1 }) else (((s.L.getD k (0, 0)).2, 0), { s with rd := s.rd + 1, left := s.left - 1 })
section
variable {w w0 w' : World} {b : Nat} {s : RS} {lv nv sv : Value}
theorem rH_2 (s : RS) (lv nv sv v : Value) : upd (rH s lv nv sv) 2 v = rH s lv v sv := by
  funext j
  match j with
  | 0 | 1 | 2 | 3 | 4 | 5 | 6 | 7 => rfl
  | j + 8 => simp [upd, rH]
theorem rH_3 (s : RS) (lv nv sv v : Value) : upd (rH s lv nv sv) 3 v = rH s lv nv v := by
  funext j
  match j with
  | 0 | 1 | 2 | 3 | 4 | 5 | 6 | 7 => rfl
  | j + 8 => simp [upd, rH]
theorem rH_1 (s : RS) (lv nv sv v : Value) : upd (rH s lv nv sv) 1 v = rH s v nv sv := by
  funext j
  match j with
  | 0 | 1 | 2 | 3 | 4 | 5 | 6 | 7 => rfl
  | j + 8 => simp [upd, rH]
/-- Another list of what is to fail when read. -/
theorem RC.setN (h : RC w b s lv nv sv) {v : Value} {l : List (Nat × Nat)} (hv : SlP w v l) (hb : ∀ i, v.ownBlock = some i → ¬ i = b) (hl : l.length < 100000) (hu : ∀ p ∈ l, isU64 p.2) : RC (w.setCell ⟨b, 2, none⟩ v) b { s with nr := l } lv v sv ∧ Fr (fun k => k = b) w (w.setCell ⟨b, 2, none⟩ v) := by
  have f : Fr (fun k => k = b) w (w.setCell ⟨b, 2, none⟩ v) := (Fr.refl (fun k => k = b) w).setCell (p := ⟨b, 2, none⟩) (.inl rfl) _
  have hd := h.hd.set 2 v
  rw [rH_2] at hd
  exact ⟨⟨hd, h.hl.fr f h.n1, hv.fr f hb, h.hs.fr f h.n3, h.n1, hb, h.n3, h.b1, hl, h.b3, h.b4, h.u1, hu, h.u3⟩, f⟩
theorem RC.setS (h : RC w b s lv nv sv) {v : Value} {l : List (Nat × Nat)} (hv : SlP w v l) (hb : ∀ i, v.ownBlock = some i → ¬ i = b) (hl : l.length < 100000) (hu : ∀ p ∈ l, isU64 p.2) : RC (w.setCell ⟨b, 3, none⟩ v) b { s with ns := l } lv nv v ∧ Fr (fun k => k = b) w (w.setCell ⟨b, 3, none⟩ v) := by
  have f : Fr (fun k => k = b) w (w.setCell ⟨b, 3, none⟩ v) := (Fr.refl (fun k => k = b) w).setCell (p := ⟨b, 3, none⟩) (.inl rfl) _
  have hd := h.hd.set 3 v
  rw [rH_3] at hd
  exact ⟨⟨hd, h.hl.fr f h.n1, h.hn.fr f h.n2, hv.fr f hb, h.n1, h.n2, hb, h.b1, h.b2, hl, h.b4, h.u1, h.u2, hu⟩, f⟩
theorem RC.setL (h : RC w b s lv nv sv) {v : Value} {l : List (Nat × Nat)} (hv : SlP w v l) (hb : ∀ i, v.ownBlock = some i → ¬ i = b) (hl : l.length < 100000) (hu : ∀ p ∈ l, isU64 p.2) : RC (w.setCell ⟨b, 1, none⟩ v) b { s with L := l } v nv sv ∧ Fr (fun k => k = b) w (w.setCell ⟨b, 1, none⟩ v) := by
  have f : Fr (fun k => k = b) w (w.setCell ⟨b, 1, none⟩ v) := (Fr.refl (fun k => k = b) w).setCell (p := ⟨b, 1, none⟩) (.inl rfl) _
  have hd := h.hd.set 1 v
  rw [rH_1] at hd
  exact ⟨⟨hd, hv.fr f hb, h.hn.fr f h.n2, h.hs.fr f h.n3, hb, h.n2, h.n3, hl, h.b2, h.b3, h.b4, hu, h.u2, h.u3⟩, f⟩
set_option maxHeartbeats 2000000 in
theorem rf_read (h : RC w b s lv nv sv) (id : Nat) (hrd : s.rd + 1 < 1000000000) (hlf : isLeft (s.left - 1)) : Calls Tryz.prog 64 #[.pointer (some ⟨b, 0, none⟩), .int .u32 id] w fun e w' => e = .returned (.tuple #[.int .u64 (s.read id).1.1, .int .i64 (s.read id).1.2]) ∧
    (∃ nv', RC w' b (s.read id).2 lv nv' sv ∧ ∀ i, FR b lv nv' sv i → FR b lv nv sv i ∨ w.heap.size ≤ i) ∧ Fr (fun k => k = b) w w' := by
  have c1 : w.cell? ⟨b, 1, none⟩ = some lv := h.ce 1 (by omega)
  have c2 : w.cell? ⟨b, 2, none⟩ = some nv := h.ce 2 (by omega)
  have lb := h.hd.lt
  have HAT := at_calls h.hl id
  have HST := Lib.hid (rf_stopped h)
  have HFA := Lib.hid (fails_calls h.hn (by have := h.b2; omega) h.u2 id)
  obtain ⟨va, vc, rfl, _, _⟩ := h.hl.shape
  obtain ⟨na, nc, rfl, _, _⟩ := h.hn.shape
  cases hat : atP s.L id with
  | none =>
    have HE : Hid (s.read id = ((0, 3), s)) := by unfold Hid RS.read; rw [hat]
    rw [HE.out]
    rw [hat] at HAT
    unfold atZ at HAT
    have HA2 := Lib.hid HAT
    have HH := Lib.hid h
    clear h HAT hat HE HST HFA hlf
    go_enter Tryz.func64, Tryz.ntmps64
    go_wp2_with fail
    refine HA2.out.mono ?_
    rintro e w1 ⟨rfl, rfl⟩
    go_wp2
    go_returns
    exact ⟨rfl, ⟨_, HH.out, fun i q => .inl q⟩, Fr.refl _ _⟩
  | some k =>
    obtain ⟨hk, hid⟩ := atP_is hat
    have hg : s.L.getD k (0, 0) = s.L[k] := by simp [hk]
    rw [hat] at HAT
    unfold atZ at HAT
    have HA2 := Lib.hid HAT
    cases hsp : s.stopped with
    | true =>
      have HE : Hid (s.read id = ((0, 7), s)) := by unfold Hid RS.read; rw [hat]; simp only [hsp, if_true]
      rw [HE.out]
      have HS2 := HST.out
      rw [hsp] at HS2
      have HS3 := Lib.hid HS2
      have HH := Lib.hid h
      clear h HAT hat HE HST HFA hlf HS2 hsp hid hg hk
      go_enter Tryz.func64, Tryz.ntmps64
      go_wp2_with fail
      refine HA2.out.mono ?_
      rintro e w1 ⟨rfl, rfl⟩
      go_wp2_with fail
      refine HS3.out.mono ?_
      rintro e w1 ⟨rfl, rfl⟩
      go_wp2
      go_returns
      exact ⟨rfl, ⟨_, HH.out, fun i q => .inl q⟩, Fr.refl _ _⟩
    | false =>
      have HS2 := HST.out
      rw [hsp] at HS2
      have HS3 := Lib.hid HS2
      have hfl := failsP_len s.nr id
      have hfu := Lib.hid (failsP_u h.u2 id)
      cases hfa : (failsP s.nr id).2 with
      | true =>
        have HE : Hid (s.read id = ((0, 7), { s with nr := (failsP s.nr id).1 })) := by unfold Hid RS.read; rw [hat]; simp only [hsp, hfa, if_true, Bool.false_eq_true, if_false]
        rw [HE.out]
        have HF2 := HFA.out
        rw [hfa] at HF2
        have HF3 := Lib.hid HF2
        have K : Hid (∀ v' w2, SlP w2 v' (failsP s.nr id).1 → (∀ i, v'.ownBlock = some i → (Value.slice na s.nr.length nc).ownBlock = some i ∨ w.heap.size ≤ i) → Fr NoF w w2 → b < w2.heap.size ∧ w2.frozen? ⟨b, 2, none⟩ = false ∧ w2.cell? ⟨b, 2, none⟩ = some (.slice na s.nr.length nc) ∧
            Hid (RC (w2.setCell ⟨b, 2, none⟩ v') b { s with nr := (failsP s.nr id).1 } (.slice va s.L.length vc) v' sv ∧ Fr (fun k => k = b) w (w2.setCell ⟨b, 2, none⟩ v') ∧ ∀ i, FR b (.slice va s.L.length vc) v' sv i → FR b (.slice va s.L.length vc) (.slice na s.nr.length nc) sv i ∨ w.heap.size ≤ i)) := by
          intro v' w2 hs ho f
          have h2 := h.fr0 f
          have hb : ∀ i, v'.ownBlock = some i → ¬ i = b := fun i q => by
            rcases ho i q with q | q
            · exact h.n2 i q
            · omega
          obtain ⟨g1, g2⟩ := h2.setN hs hb (by rw [hfl]; exact h.b2) hfu.out
          exact ⟨h2.hd.lt, h2.hd.frozen 2, h2.ce 2 (by omega), g1, (f.mono (fun _ q => q.elim)).trans g2 (fun i q => .inl q), FR.n ho⟩
        clear h HAT hat HE HST HFA hlf HS2 HF2 hfa hsp hid hg hk hfl hfu
        go_enter Tryz.func64, Tryz.ntmps64
        go_wp2_with fail
        refine HA2.out.mono ?_
        rintro e w1 ⟨rfl, rfl⟩
        go_wp2_with fail
        refine HS3.out.mono ?_
        rintro e w1 ⟨rfl, rfl⟩
        go_wp2_with fail
        refine HF3.out.mono ?_
        rintro e w2 ⟨v2, rfl, h1, h2, h3⟩
        obtain ⟨ea, eb, ec, KK⟩ := K.out v2 w2 h1 h2 h3
        obtain ⟨a2, m2, rfl, _, _⟩ := h1.shape
        clear h1 h2 h3 K HF3
        go_wp2
        go_returns
        exact ⟨rfl, ⟨_, KK.out.1, KK.out.2.2⟩, KK.out.2.1⟩
      | false =>
        have HE : Hid (s.read id = ((s.L[k].2, 0), { s with rd := s.rd + 1, left := s.left - 1 })) := by unfold Hid RS.read; rw [hat]; simp only [hsp, hfa, Bool.false_eq_true, if_false, hg]
        rw [HE.out]
        have HF2 := HFA.out
        rw [hfa] at HF2
        have HF3 := Lib.hid HF2
        obtain ⟨g, off, cc, ev, p1, p2, p3, _, cy1⟩ := h.hl.at hk
        simp only [Value.slice.injEq] at ev
        obtain ⟨rfl, _, rfl⟩ := ev
        have hgb : ¬ g = b := h.n1 g rfl
        have hgb2 : ¬ b = g := fun e => hgb e.symm
        rw [← Nat.add_assoc] at cy1
        have K : Hid (∀ w2, Fr NoF w w2 → b < w2.heap.size ∧ g < w2.heap.size ∧ w2.frozen? ⟨b, 4, none⟩ = false ∧ w2.frozen? ⟨b, 7, none⟩ = false ∧ w2.cell? ⟨b, 4, none⟩ = some (.int .i64 s.rd) ∧ w2.cell? ⟨b, 7, none⟩ = some (.int .i64 s.left) ∧ w2.cell? ⟨b, 1, none⟩ = some (.slice (some ⟨g, off, none⟩) s.L.length vc) ∧ w2.cell? ⟨g, off + k * 2 + 1, none⟩ = some (.int .u64 (s.L[k].2 : Nat)) ∧
            Hid (∀ z : Int, z = (s.rd : Int) + 1 → RC ((w2.setCell ⟨b, 4, none⟩ (.int .i64 z)).setCell ⟨b, 7, none⟩ (.int .i64 (s.left - 1))) b { s with rd := s.rd + 1, left := s.left - 1 } (.slice (some ⟨g, off, none⟩) s.L.length vc) (.slice na s.nr.length nc) sv ∧ Fr (fun k => k = b) w ((w2.setCell ⟨b, 4, none⟩ (.int .i64 z)).setCell ⟨b, 7, none⟩ (.int .i64 (s.left - 1))))) := by
          intro w2 f
          have h2 := h.fr0 f
          refine ⟨h2.hd.lt, Nat.lt_of_lt_of_le p3 f.size, h2.hd.frozen 4, h2.hd.frozen 7, h2.ce 4 (by omega), h2.ce 7 (by omega), h2.ce 1 (by omega), ?_, ?_⟩
          · obtain ⟨g', off', cc', ev', _, _, _, _, cy'⟩ := h2.hl.at hk
            simp only [Value.slice.injEq, Option.some.injEq, Addr.mk.injEq] at ev'
            obtain ⟨⟨rfl, rfl, _⟩, _, rfl⟩ := ev'
            rw [← Nat.add_assoc] at cy'
            exact cy'
          · rintro z rfl
            obtain ⟨g1, f1⟩ := h2.head 4 (.int .i64 ((s.rd + 1 : Nat) : Int)) (rH_4 s _ _ sv (s.rd + 1)) rfl rfl rfl ⟨hrd, h.b4.2⟩
            obtain ⟨g2, f2⟩ := g1.head 7 (.int .i64 (s.left - 1)) (rH_7 _ _ _ sv (s.left - 1)) rfl rfl rfl ⟨hrd, h.b4.2⟩
            exact ⟨g2, ((f.mono (fun _ q => q.elim)).trans f1 (fun i q => .inl q)).trans f2 (fun i q => .inl q)⟩
        have hlw : IntKind.i64.wrap (s.left - 1) = s.left - 1 := IntWalk.i64_in _ (by unfold isLeft at hlf; omega)
        have hb1 := h.b1
        unfold maxLen at p2
        generalize s.L[k].2 = y at K cy1 ⊢
        clear h HAT hat HE HST HFA hlf HS2 HF2 hfa hsp hid hg hfl hfu cy1
        go_enter Tryz.func64, Tryz.ntmps64
        go_wp2_with fail
        refine HA2.out.mono ?_
        rintro e w1 ⟨rfl, rfl⟩
        go_wp2_with fail
        refine HS3.out.mono ?_
        rintro e w1 ⟨rfl, rfl⟩
        go_wp2_with fail
        refine HF3.out.mono ?_
        rintro e w2 ⟨v2, rfl, h1, h2, h3⟩
        obtain ⟨ea, eb, ec, ed, ee, ef, eg, eh, KK⟩ := K.out w2 h3
        obtain ⟨a2, m2, rfl, _, _⟩ := h1.shape
        clear h1 h2 h3 K HF3
        go_wp2
        go_returns
        obtain ⟨r1, r2⟩ := KK.out _ (by first | rfl | omega)
        exact ⟨rfl, ⟨_, r1, fun i q => .inl q⟩, r2⟩
end
end Go.Proofs.YtnideelidfpicaaGreatDoor

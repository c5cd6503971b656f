/-
  The document's own Disk in memory: Write.
-/
import Derived.Test.YtnideelidfpicaaGreatDoorK33
namespace Go.Proofs.YtnideelidfpicaaGreatDoor
open Go.RowKit
set_option linter.unusedVariables false

def RS.write (s : RS) (id v : Nat) : Nat × RS :=
  match atP s.L id with
  | none => (3, s)
  | some k => if s.stopped = true then (7, s) else if (failsP s.ns id).2 = true then (7, { s with ns := (failsP s.ns id).1 }) else (0, { s with L := s.L.set k ((s.L.getD k (0, 0)).1, v), wr := s.wr + 1, left := s.left - 1 })
section
variable {w w0 w' : World} {b : Nat} {s : RS} {lv nv sv : Value}
theorem RC.value {g cap : Nat} (h : RC w b s lv nv sv) (ho : SlF w 89 2 lv s.L.length (plF s.L)) (hlv : lv = .slice (some ⟨g, 0, none⟩) s.L.length cap) (h1 : ∀ i, nv.ownBlock = some i ∨ sv.ownBlock = some i → ¬ i = g) {k : Nat} (hk : k < s.L.length) (v : Nat) (hv : isU64 v) : RC (w.setCell ⟨g, k * 2 + 1, none⟩ (.int .u64 v)) b { s with L := s.L.set k (s.L[k].1, v) } lv nv sv ∧ Fr (fun i => i = g) w (w.setCell ⟨g, k * 2 + 1, none⟩ (.int .u64 v)) := by
  have f : Fr (fun i => i = g) w (w.setCell ⟨g, k * 2 + 1, none⟩ (.int .u64 v)) := (Fr.refl (fun i => i = g) w).setCell (p := ⟨g, k * 2 + 1, none⟩) (.inl rfl) _
  have hgb : ¬ g = b := h.n1 g (by rw [hlv]; rfl)
  subst hlv
  have hs := (ho.set (i := k * 2 + 1) (by omega) (.int .u64 (v : Int))).congr (plF_set s.L hk v)
  have hs3 : SlF (w.setCell ⟨g, k * 2 + 1, none⟩ (.int .u64 (v : Int))) 89 2 (.slice (some ⟨g, 0, none⟩) s.L.length cap) (s.L.set k (s.L[k].1, v)).length (plF (s.L.set k (s.L[k].1, v))) := by rw [List.length_set]; exact hs
  refine ⟨⟨h.hd.fr f (fun e => hgb e.symm), SlF.page (n := 0) hs3, h.hn.fr f (fun i q => h1 i (.inl q)), h.hs.fr f (fun i q => h1 i (.inr q)), h.n1, h.n2, h.n3, by show (s.L.set k (s.L[k].1, v)).length < _; rw [List.length_set]; exact h.b1, h.b2, h.b3, h.b4, fun p hp => ?_, h.u2, h.u3⟩, f⟩
  rcases List.mem_or_eq_of_mem_set hp with q | q
  · exact h.u1 p q
  · rw [q]; exact hv
theorem own_page {w : World} {base n : Nat} {v : Value} {l : List (Nat × Nat)} (ho : w.ownsRow base 89 2 v (0 + l.length) ([] ++ plC l)) : SlF w 89 2 v l.length (plF l) := by
  obtain ⟨o1, o2⟩ := ho
  unfold SlF
  rw [plF_list]
  refine ⟨by rw [plC_len], ?_⟩
  rw [Nat.zero_add, List.nil_append] at o2
  refine o2.imp id ?_
  rintro ⟨g, cap, cur, e1, hg, r⟩
  exact ⟨g, cap, cur, e1, Nat.zero_le _, r⟩
set_option maxHeartbeats 2000000 in
theorem rf_write (h : RC w b s lv nv sv) (id v : Nat) (hv : isU64 v) (hwr : s.wr + 1 < 1000000000) (hlf : isLeft (s.left - 1)) : Calls Tryz.prog 67 #[.pointer (some ⟨b, 0, none⟩), .int .u32 id, .int .u64 v] w fun e w' => e = .returned (.int .i64 (s.write id v).1) ∧
    (∃ lv' sv', RC w' b (s.write id v).2 lv' nv sv' ∧ ∀ i, FR b lv' nv sv' i → FR b lv nv sv i ∨ w.heap.size ≤ i) ∧ Fr (fun k => k = b) w w' := by
  have c1 : w.cell? ⟨b, 1, none⟩ = some lv := h.ce 1 (by omega)
  have c3 : w.cell? ⟨b, 3, none⟩ = some sv := h.ce 3 (by omega)
  have lb := h.hd.lt
  have HAT := at_calls h.hl id
  have HST := Lib.hid (rf_stopped h)
  have HFA := Lib.hid (fails_calls h.hs (by have := h.b3; omega) h.u3 id)
  obtain ⟨va, vc, rfl, _, _⟩ := h.hl.shape
  obtain ⟨na, nc, rfl, _, _⟩ := h.hs.shape
  cases hat : atP s.L id with
  | none =>
    have HE : Hid (s.write id v = (3, s)) := by unfold Hid RS.write; rw [hat]
    rw [HE.out]
    rw [hat] at HAT
    unfold atZ at HAT
    have HA2 := Lib.hid HAT
    have HH := Lib.hid h
    clear h HAT hat HE HST HFA hlf hv
    go_enter Tryz.func67, Tryz.ntmps67
    go_wp2_with fail
    refine HA2.out.mono ?_
    rintro e w1 ⟨rfl, rfl⟩
    go_wp2
    go_returns
    exact ⟨rfl, ⟨_, _, HH.out, fun i q => .inl q⟩, Fr.refl _ _⟩
  | some k =>
    obtain ⟨hk, hid⟩ := atP_is hat
    have hg : s.L.getD k (0, 0) = s.L[k] := by simp [hk]
    rw [hat] at HAT
    unfold atZ at HAT
    have HA2 := Lib.hid HAT
    cases hsp : s.stopped with
    | true =>
      have HE : Hid (s.write id v = (7, s)) := by unfold Hid RS.write; rw [hat]; simp only [hsp, if_true]
      rw [HE.out]
      have HS2 := HST.out
      rw [hsp] at HS2
      have HS3 := Lib.hid HS2
      have HH := Lib.hid h
      clear h HAT hat HE HST HFA hlf HS2 hsp hid hg hk hv
      go_enter Tryz.func67, Tryz.ntmps67
      go_wp2_with fail
      refine HA2.out.mono ?_
      rintro e w1 ⟨rfl, rfl⟩
      go_wp2_with fail
      refine HS3.out.mono ?_
      rintro e w1 ⟨rfl, rfl⟩
      go_wp2
      go_returns
      exact ⟨rfl, ⟨_, _, HH.out, fun i q => .inl q⟩, Fr.refl _ _⟩
    | false =>
      have HS2 := HST.out
      rw [hsp] at HS2
      have HS3 := Lib.hid HS2
      have hfl := failsP_len s.ns id
      have hfu := Lib.hid (failsP_u h.u3 id)
      cases hfa : (failsP s.ns id).2 with
      | true =>
        have HE : Hid (s.write id v = (7, { s with ns := (failsP s.ns id).1 })) := by unfold Hid RS.write; rw [hat]; simp only [hsp, hfa, if_true, Bool.false_eq_true, if_false]
        rw [HE.out]
        have HF2 := HFA.out
        rw [hfa] at HF2
        have HF3 := Lib.hid HF2
        have K : Hid (∀ v' w2, SlP w2 v' (failsP s.ns id).1 → (∀ i, v'.ownBlock = some i → (Value.slice na s.ns.length nc).ownBlock = some i ∨ w.heap.size ≤ i) → Fr NoF w w2 → b < w2.heap.size ∧ w2.frozen? ⟨b, 3, none⟩ = false ∧ w2.cell? ⟨b, 3, none⟩ = some (.slice na s.ns.length nc) ∧
            Hid (RC (w2.setCell ⟨b, 3, none⟩ v') b { s with ns := (failsP s.ns id).1 } (.slice va s.L.length vc) nv v' ∧ Fr (fun k => k = b) w (w2.setCell ⟨b, 3, none⟩ v') ∧ ∀ i, FR b (.slice va s.L.length vc) nv v' i → FR b (.slice va s.L.length vc) nv (.slice na s.ns.length nc) i ∨ w.heap.size ≤ i)) := by
          intro v' w2 hs ho f
          have h2 := h.fr0 f
          have hb : ∀ i, v'.ownBlock = some i → ¬ i = b := fun i q => by
            rcases ho i q with q | q
            · exact h.n3 i q
            · omega
          obtain ⟨g1, g2⟩ := h2.setS hs hb (by rw [hfl]; exact h.b3) hfu.out
          exact ⟨h2.hd.lt, h2.hd.frozen 3, h2.ce 3 (by omega), g1, (f.mono (fun _ q => q.elim)).trans g2 (fun i q => .inl q), FR.s ho⟩
        clear h HAT hat HE HST HFA hlf HS2 HF2 hfa hsp hid hg hk hfl hfu hv
        go_enter Tryz.func67, Tryz.ntmps67
        go_wp2_with fail
        refine HA2.out.mono ?_
        rintro e w1 ⟨rfl, rfl⟩
        go_wp2_with fail
        refine HS3.out.mono ?_
        rintro e w1 ⟨rfl, rfl⟩
        go_wp2_with fail
        refine HF3.out.mono ?_
        rintro e w2 ⟨v2, rfl, h1, h2, h3⟩
        obtain ⟨ea, eb, ec, KK⟩ := K.out v2 w2 h1 h2 h3
        obtain ⟨a2, m2, rfl, _, _⟩ := h1.shape
        clear h1 h2 h3 K HF3
        go_wp2
        go_returns
        exact ⟨rfl, ⟨_, _, KK.out.1, KK.out.2.2⟩, KK.out.2.1⟩
      | false =>
        have HE : Hid (s.write id v = (0, { s with L := s.L.set k (s.L[k].1, v), wr := s.wr + 1, left := s.left - 1 })) := by unfold Hid RS.write; rw [hat]; simp only [hsp, hfa, Bool.false_eq_true, if_false, hg]
        rw [HE.out]
        have HF2 := HFA.out
        rw [hfa] at HF2
        have HF3 := Lib.hid HF2
        have K0 : Hid (∀ w2, Fr NoF w w2 → b < w2.heap.size ∧ w2.cell? ⟨b, 1, none⟩ = some (.slice va s.L.length vc) ∧ SlP w2 (.slice va s.L.length vc) s.L) := fun w2 f => ⟨(h.fr0 f).hd.lt, (h.fr0 f).ce 1 (by omega), (h.fr0 f).hl⟩
        have K : Hid (∀ w2 v', w2.ownsRow w.heap.size 89 2 v' (0 + s.L.length) ([] ++ plC s.L) → Fr NoF w w2 → ∃ g cap, v' = .slice (some ⟨g, 0, none⟩) s.L.length cap ∧ s.L.length ≤ cap ∧ cap ≤ 9223372036854775807 ∧ ¬ g = b ∧ b < w2.heap.size ∧ g < w2.heap.size ∧ w2.frozen? ⟨b, 1, none⟩ = false ∧ w2.frozen? ⟨b, 5, none⟩ = false ∧ w2.frozen? ⟨b, 7, none⟩ = false ∧ w2.cell? ⟨b, 1, none⟩ = some (.slice va s.L.length vc) ∧ w2.cell? ⟨b, 5, none⟩ = some (.int .i64 s.wr) ∧ w2.cell? ⟨b, 7, none⟩ = some (.int .i64 s.left) ∧ w2.frozen? ⟨g, k * 2 + 1, none⟩ = false ∧ w2.cell? ⟨g, k * 2 + 1, none⟩ = some (.int .u64 (s.L[k].2 : Nat)) ∧
            Hid (∀ z : Int, z = (s.wr : Int) + 1 → RC ((((w2.setCell ⟨b, 1, none⟩ (.slice (some ⟨g, 0, none⟩) s.L.length cap)).setCell ⟨g, k * 2 + 1, none⟩ (.int .u64 v)).setCell ⟨b, 5, none⟩ (.int .i64 z)).setCell ⟨b, 7, none⟩ (.int .i64 (s.left - 1))) b { s with L := s.L.set k (s.L[k].1, v), wr := s.wr + 1, left := s.left - 1 } (.slice (some ⟨g, 0, none⟩) s.L.length cap) nv (.slice na s.ns.length nc) ∧ Fr (fun k => k = b) w ((((w2.setCell ⟨b, 1, none⟩ (.slice (some ⟨g, 0, none⟩) s.L.length cap)).setCell ⟨g, k * 2 + 1, none⟩ (.int .u64 v)).setCell ⟨b, 5, none⟩ (.int .i64 z)).setCell ⟨b, 7, none⟩ (.int .i64 (s.left - 1))) ∧ w.heap.size ≤ g)) := by
          intro w2 v' ho f
          have h2 := h.fr0 f
          have hob := ownBlock_own ho
          have ho2 := own_page (n := 0) ho
          obtain ⟨g, cap, rfl, p2, p3, p4, p5, p6⟩ := ho2.at (by omega)
          have hgw := hob g rfl
          have hgb : ¬ g = b := by omega
          refine ⟨g, cap, rfl, p2, by unfold maxLen at p3; omega, hgb, h2.hd.lt, p4, h2.hd.frozen 1, h2.hd.frozen 5, h2.hd.frozen 7, h2.ce 1 (by omega), h2.ce 5 (by omega), h2.ce 7 (by omega), p5 _, by rw [p6 _ (by omega), (plF_at s.L hk).2], ?_⟩
          rintro z rfl
          obtain ⟨g1, f1⟩ := h2.setL (SlF.page (n := 0) ho2) (fun i q => by cases q; exact hgb) h.b1 h.u1
          have hn2 : ∀ i, nv.ownBlock = some i ∨ (Value.slice na s.ns.length nc).ownBlock = some i → ¬ i = g := fun i q e => by
            rcases q with q | q
            · have := SlC.lt h.hn i q; omega
            · have := SlC.lt h.hs i q; omega
          obtain ⟨g2, f2⟩ := g1.value (ho2.fr f1 (fun i q => by cases q; exact hgb)) rfl hn2 hk v hv
          obtain ⟨g3, f3⟩ := g2.head 5 (.int .i64 ((s.wr + 1 : Nat) : Int)) (rH_5 _ _ _ _ (s.wr + 1)) rfl rfl rfl ⟨h.b4.1, hwr⟩
          obtain ⟨g4, f4⟩ := g3.head 7 (.int .i64 (s.left - 1)) (rH_7 _ _ _ _ (s.left - 1)) rfl rfl rfl ⟨h.b4.1, hwr⟩
          refine ⟨g4, ((((f.mono (fun _ q => q.elim)).trans f1 (fun i q => .inl q)).trans f2 (fun i q => .inr (by rw [q]; exact hgw))).trans f3 (fun i q => .inl q)).trans f4 (fun i q => .inl q), hgw⟩
        have hlw : IntKind.i64.wrap (s.left - 1) = s.left - 1 := IntWalk.i64_in _ (by unfold isLeft at hlf; omega)
        have hb1 := h.b1
        have hb4 := h.b4
        generalize s.L[k].2 = y at K
        clear h HAT hat HE HST HFA hlf HS2 HF2 hfa hsp hid hg hfl hfu hv
        go_enter Tryz.func67, Tryz.ntmps67
        go_wp2_with fail
        refine HA2.out.mono ?_
        rintro e w1 ⟨rfl, rfl⟩
        go_wp2_with fail
        refine HS3.out.mono ?_
        rintro e w1 ⟨rfl, rfl⟩
        go_wp2_with fail
        refine HF3.out.mono ?_
        rintro e w2 ⟨v2, rfl, h1, h2, h3⟩
        obtain ⟨ea, eb, _⟩ := K0.out w2 h3
        obtain ⟨a2, m2, rfl, _, _⟩ := h1.shape
        have F3 := Lib.hid h3
        have hsz := h3.size
        clear h1 h2 h3 HF3
        go_wp2_with (at_builtin; go_must (refine appLB (base := w.heap.size) EIP rfl _ _ rfl (by rfl) (by rfl) (by simp; omega) (own_new (w0 := w) (by omega) #[] 89 2 0 _ rfl rfl (by unfold maxLen; omega)) (K0.out _ (F3.out.alloc _)).2.2 (by unfold maxLen; omega) (by omega) ?_); intro v' w3 hown' hf' hob'; obtain ⟨g, cap, rfl, k1, k2, k3, k4, k5, k6, k7, k8, k9, ka, kb, kc, kd, KK⟩ := K.out w3 v' hown' ((F3.out.alloc _).trans hf' (fun i q => .inr (by cases q; omega))); have k3' := (fun e => k3 (Eq.symm e) : ¬ b = g); clear hown' hf' hob')
        go_returns
        obtain ⟨r1, r2, r3⟩ := KK.out _ (by first | rfl | omega)
        exact ⟨rfl, ⟨_, _, r1, FR.l (fun i q => .inr (by cases q; exact r3))⟩, r2⟩
end
end Go.Proofs.YtnideelidfpicaaGreatDoor

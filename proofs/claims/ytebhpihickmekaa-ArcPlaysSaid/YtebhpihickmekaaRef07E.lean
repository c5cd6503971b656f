/-
  Package hatcheckref07's P: victim.
-/
import Derived.Test.YtebhpihickmekaaRef07D
import Derived.Deep.DeepCutAuto
namespace Go.Proofs.Ytebhpihickmekaa
open Go.RowKit
set_option linter.unusedVariables false

section
variable {w w' w'' : World} {pb gb ob n : Nat} {hc : Nat → Value} {s s' : S7}

set_option maxRecDepth 100000 in
set_option maxHeartbeats 4000000 in
theorem s7_victim_no (h : PG w pb 8 gb ob n hc (rows7 s) s.page s.on) (hh : H7 n s gb ob hc) {id : Nat} (hv : s.vic id = none) : Calls Try.prog 23 #[.pointer (some ⟨pb, 0, none⟩), .int .u32 id] w fun e w' => e = .returned (.int .i64 (-1)) ∧ Fr NoF w w' := by
  have hA : s.t1.find? s.on = none ∧ s.t2.find? s.on = none := by
    unfold S7.vic at hv
    split at hv
    · rename_i q
      refine ⟨hv, ?_⟩
      rcases q with q | q
      · rw [hv] at q; simp at q
      · exact q
    · rename_i q
      exact (q (.inr hv)).elim
  obtain ⟨a3, k3, e3, q5, q6, _, _⟩ := h.row (i := 3) (k := .i64) (l := s.t1) rfl
  obtain ⟨a4, k4, e4, q7, q8, _, _⟩ := h.row (i := 4) (k := .i64) (l := s.t2) rfl
  obtain ⟨a5, L5, k5, e5, l5, q1, q2, hs5, hx5⟩ := h.rowAt (i := 5) (l := s.b1) rfl
  obtain ⟨a6, L6, k6, e6, l6, q3, q4, hs6, hx6⟩ := h.rowAt (i := 6) (l := s.b2) rfl
  have hn := h.hn
  have hbl := hh.bl
  have hl3 := len_lt hh.n1 hh.l1
  have HI5 : Hid (∀ w', Fr NoF w w' → Calls Try.prog 42 #[.slice a5 L5 k5, .int .u32 id] w' fun e w'' => e = .returned (.bool (decide (id ∈ s.b1))) ∧ Fr NoF w' w'') := by
    intro w' f
    have := in_calls (hs5.keep f) (by omega) id
    rw [← l5] at this
    exact this
  have HI6 : Hid (∀ w', Fr NoF w w' → Calls Try.prog 42 #[.slice a6 L6 k6, .int .u32 id] w' fun e w'' => e = .returned (.bool (decide (id ∈ s.b2))) ∧ Fr NoF w' w'') := by
    intro w' f
    have := in_calls (hs6.keep f) (by omega) id
    rw [← l6] at this
    exact this
  have HP : Hid (∀ w', Fr NoF w w' → w'.cell? ⟨pb, 0, none⟩ = some (.int .i64 n) ∧ w'.cell? ⟨pb, 1, none⟩ = some (.slice (some ⟨gb, 0, none⟩) n n) ∧ w'.cell? ⟨pb, 2, none⟩ = some (.slice (some ⟨ob, 0, none⟩) n n) ∧ w'.cell? ⟨pb, 3, none⟩ = some (.slice a3 s.t1.length k3) ∧ w'.cell? ⟨pb, 4, none⟩ = some (.slice a4 s.t2.length k4) ∧ w'.cell? ⟨pb, 5, none⟩ = some (.slice a5 L5 k5) ∧ w'.cell? ⟨pb, 6, none⟩ = some (.slice a6 L6 k6) ∧ w'.cell? ⟨pb, 7, none⟩ = some (.int .i64 (s.goal : Nat)) ∧ pb < w'.heap.size) := fun w' f =>
    ⟨(h.fr0 f).c 0 (by omega) hh.c0, (h.fr0 f).c 1 (by omega) hh.c1, (h.fr0 f).c 2 (by omega) hh.c2, (h.fr0 f).c 3 (by omega) e3, (h.fr0 f).c 4 (by omega) e4, (h.fr0 f).c 5 (by omega) e5, (h.fr0 f).c 6 (by omega) e6, (h.fr0 f).c 7 (by omega) hh.c7, (h.fr0 f).hd.lt⟩
  have HA : Hid (∀ w', Fr NoF w w' → ∀ d, Calls Try.prog 44 #[.slice a3 s.t1.length k3, .slice (some ⟨ob, 0, none⟩) n n] (w'.drewN d) fun e w'' => e = .returned (.int .i64 (fstI (s.t1.find? s.on))) ∧ w'.drewN d = w'') := by
    intro w' f d
    have := s7_first1 (h.fr0 f) hh d
    rw [e3] at this
    exact this
  have HB : Hid (∀ w', Fr NoF w w' → ∀ d, Calls Try.prog 44 #[.slice a4 s.t2.length k4, .slice (some ⟨ob, 0, none⟩) n n] (w'.drewN d) fun e w'' => e = .returned (.int .i64 (fstI (s.t2.find? s.on))) ∧ w'.drewN d = w'') := by
    intro w' f d
    have := s7_first2 (h.fr0 f) hh d
    rw [e4] at this
    exact this
  have HFS : Hid (s.fst id = (decide (0 < s.t1.length) && (decide (s.goal < s.t1.length) || (decide (s.t1.length = s.goal) && decide (id ∈ s.b2))))) := rfl
  rw [hA.1, show fstI none = -1 from rfl] at HA
  rw [hA.2, show fstI none = -1 from rfl] at HB
  clear h hh hv hA hs5 hs6 e3 e4 e5 e6 hx5 hx6 l5 l6
  generalize s.t1.length = L3 at *
  generalize s.t2.length = L4 at *
  generalize s.goal = gg at *
  generalize hm5 : decide (id ∈ s.b1) = m5 at *
  generalize hm6 : decide (id ∈ s.b2) = m6 at *
  generalize s.fst id = fb at *
  have M5 := Lib.hid hm5
  have M6 := Lib.hid hm6
  clear hm5 hm6
  go_enter Try.func23, Try.ntmps23
  go_upto_region 1 with fail
  go_cut [5] (fun s5 wx => s5 = .bool fb ∧ Fr NoF w wx)
  case first =>
    obtain ⟨g0, g1, g2, g3, g4, g5, g6, g7, gl⟩ := HP.out w (Fr.refl _ _)
    by_cases hA1 : 0 < L3
    · have z1 : 0 < (L3 : Int) := by omega
      have y1 : decide (0 < L3) = true := by simp [hA1]
      by_cases hA2 : gg < L3
      · have hfb : fb = true := by rw [HFS.out]; simp [hA1, hA2]
        subst hfb
        have z2 : (gg : Int) < (L3 : Int) := by omega
        have y2 : decide (gg < L3) = true := by simp [hA2]
        clear hA1 hA2
        go_quiet (fail)
        all_goals (go_wp2_with fail; go_meet; exact ⟨rfl, by repeat (first | exact Fr.refl NoF _ | apply Fr.drew | apply Fr.drewN)⟩)
      · have z2 : decide ((gg : Int) < (L3 : Int)) = false := by simp; omega
        have y2 : decide (gg < L3) = false := by simp; omega
        by_cases hA3 : L3 = gg
        · have hfb : fb = m6 := by
            rw [HFS.out, show decide (0 < L3) = true from by simp [hA1], show decide (gg < L3) = false from by simp; omega, show decide (L3 = gg) = true from by simp [hA3]]
            simp
          subst hfb
          have z3 : ((L3 : Int) == (gg : Int)) = true := by simp; omega
          have y3 : (L3 == gg) = true := by simp [hA3]
          have x3 : decide (L3 = gg) = true := by simp [hA3]
          clear hA1 hA2 hA3
          go_region_held3 (fun w' => w'.cell? ⟨pb, 3, none⟩ = some (.slice a3 L3 k3) ∧ w'.cell? ⟨pb, 6, none⟩ = some (.slice a6 L6 k6) ∧ w'.cell? ⟨pb, 7, none⟩ = some (.int .i64 (gg : Nat)))
            (first | exact ⟨g3, g6, g7⟩ | exact ⟨i3, i6, i7⟩)
            (first
              | (go_at_call 42; refine (HI6.out _ (by repeat (first | exact Fr.refl NoF _ | apply Fr.drew | apply Fr.drewN))).mono ?_; rintro e wi ⟨rfl, fi⟩; have fi' : Fr NoF w wi := Fr.trans (F := NoF) (by repeat (first | exact Fr.refl NoF _ | apply Fr.drew | apply Fr.drewN)) fi (fun _ q => q.elim); obtain ⟨i0, i1, i2, i3, i4, i5, i6, i7, il⟩ := HP.out wi fi'; have FI := Lib.hid fi'; clear fi fi'))
          all_goals (go_wp2_with fail; go_meet; exact ⟨rfl, FI.out⟩)
        · have hfb : fb = false := by rw [HFS.out]; simp [hA1, hA2, hA3]
          subst hfb
          have z3 : ((L3 : Int) == (gg : Int)) = false := by simp; omega
          have y3 : (L3 == gg) = false := by simp [hA3]
          have x3 : decide (L3 = gg) = false := by simp [hA3]
          clear hA1 hA2 hA3
          go_quiet (fail)
          all_goals (go_wp2_with fail; go_meet; exact ⟨rfl, by repeat (first | exact Fr.refl NoF _ | apply Fr.drew | apply Fr.drewN)⟩)
    · have hfb : fb = false := by rw [HFS.out]; simp [hA1]
      subst hfb
      have z1 : decide (0 < (L3 : Int)) = false := by simp; omega
      have y1 : decide (0 < L3) = false := by simp; omega
      clear hA1
      go_quiet (fail)
      all_goals (go_wp2_with fail; go_meet; exact ⟨rfl, by repeat (first | exact Fr.refl NoF _ | apply Fr.drew | apply Fr.drewN)⟩)
  case rest =>
    obtain ⟨rfl, f1⟩ := hcut
    obtain ⟨g0, g1, g2, g3, g4, g5, g6, g7, gl⟩ := HP.out wc f1
    have HA1 := Lib.hid (HA.out wc f1)
    have HB1 := Lib.hid (HB.out wc f1)
    have F1 := Lib.hid f1
    clear f1 HA HB HI5 HI6
    cases fb
    all_goals
      go_wp2_with fail
      go_quiet ((first | (go_at_call 44; with_reducible exact qs (HA1.out _)) | (go_at_call 44; with_reducible exact qs (HB1.out _))))
      go_wp2
      go_returns
      exact ⟨rfl, by repeat (first | exact F1.out | apply Fr.drewN)⟩

/-- At the loop's head: the page is gone, so many are remembered. -/
def LpS (w : World) (pb gb ob n : Nat) (hc : Nat → Value) (s r : S7) (b1 b2 : List Nat) (w' : World) : Prop := ∃ hc', PS w (DP pb gb ob hc (rows7 s)) pb 8 gb ob n w' hc' (rows7 ⟨r.page, r.on, r.t1, r.t2, b1, b2, r.goal⟩) r.page r.on ∧ H7 n ⟨r.page, r.on, r.t1, r.t2, [], [], r.goal⟩ gb ob hc'
theorem LpS.fin {r : S7} {b1 b2 : List Nat} (h : LpS w pb gb ob n hc s r b1 b2 w') (hb : b1.length + b2.length ≤ n) : Res7 w pb gb ob n hc s ⟨r.page, r.on, r.t1, r.t2, b1, b2, r.goal⟩ w' := by
  obtain ⟨hc', h1, h2⟩ := h
  exact ⟨hc', h1, h2.c0, h2.c1, h2.c2, h2.c7, h2.n1, h2.n2, h2.l1, h2.l2, hb, h2.gl⟩
theorem LpS.of {r : S7} (h : Res7 w pb gb ob n hc s r w') : LpS w pb gb ob n hc s r r.b1 r.b2 w' := by
  obtain ⟨hc', h1, h2⟩ := h
  exact ⟨hc', h1, h2.c0, h2.c1, h2.c2, h2.c7, h2.n1, h2.n2, h2.l1, h2.l2, Nat.zero_le _, h2.gl⟩
theorem LpS.fr0 {r : S7} {b1 b2 : List Nat} (h : LpS w pb gb ob n hc s r b1 b2 w') (f : Fr NoF w' w'') : LpS w pb gb ob n hc s r b1 b2 w'' := by
  obtain ⟨hc', h1, h2⟩ := h
  exact ⟨hc', h1.fr0 f, h2⟩
/-- What the loop reads and leaves. -/
theorem LpS.use {r : S7} {b1 b2 : List Nat} (h : LpS w pb gb ob n hc s r b1 b2 w') : ∃ a5 L5 k5 a6 L6 k6, L5 = b1.length ∧ L6 = b2.length ∧ L5 ≤ k5 ∧ k5 ≤ maxLen ∧ L6 ≤ k6 ∧ k6 ≤ maxLen ∧
    (∀ wx, Fr NoF w' wx → wx.cell? ⟨pb, 0, none⟩ = some (.int .i64 n) ∧ wx.cell? ⟨pb, 5, none⟩ = some (.slice a5 L5 k5) ∧ wx.cell? ⟨pb, 6, none⟩ = some (.slice a6 L6 k6) ∧ wx.frozen? ⟨pb, 5, none⟩ = false ∧ wx.frozen? ⟨pb, 6, none⟩ = false ∧ pb < wx.heap.size) ∧
    (∀ wx, Fr NoF w' wx → 1 ≤ L5 → (k5 = 1 → LpS w pb gb ob n hc s r (b1.drop 1) b2 (wx.setCell ⟨pb, 5, none⟩ (.slice a5 0 0))) ∧ (¬ k5 = 1 → LpS w pb gb ob n hc s r (b1.drop 1) b2 (wx.setCell ⟨pb, 5, none⟩ (.slice (Option.map (fun (x : Addr) => (⟨x.block, x.off + 1, none⟩ : Addr)) a5) (L5 - 1) (k5 - 1))))) ∧
    (∀ wx, Fr NoF w' wx → 1 ≤ L6 → (k6 = 1 → LpS w pb gb ob n hc s r b1 (b2.drop 1) (wx.setCell ⟨pb, 6, none⟩ (.slice a6 0 0))) ∧ (¬ k6 = 1 → LpS w pb gb ob n hc s r b1 (b2.drop 1) (wx.setCell ⟨pb, 6, none⟩ (.slice (Option.map (fun (x : Addr) => (⟨x.block, x.off + 1, none⟩ : Addr)) a6) (L6 - 1) (k6 - 1))))) := by
  obtain ⟨hc', h1, h2⟩ := h
  obtain ⟨a5, L5, k5, e5, l5, q1, q2, hs5, hx5⟩ := PG.rowAt (s := ⟨r.page, r.on, r.t1, r.t2, b1, b2, r.goal⟩) h1.g (i := 5) (l := b1) rfl
  obtain ⟨a6, L6, k6, e6, l6, q3, q4, hs6, hx6⟩ := PG.rowAt (s := ⟨r.page, r.on, r.t1, r.t2, b1, b2, r.goal⟩) h1.g (i := 6) (l := b2) rfl
  refine ⟨a5, L5, k5, a6, L6, k6, l5, l6, q1, q2, q3, q4, fun wx f => ⟨(h1.fr0 f).g.c 0 (by omega) h2.c0, (h1.fr0 f).g.c 5 (by omega) e5, (h1.fr0 f).g.c 6 (by omega) e6, (h1.fr0 f).g.hd.frozen 5, (h1.fr0 f).g.hd.frozen 6, (h1.fr0 f).g.hd.lt⟩, fun wx f p => ?_, fun wx f p => ?_⟩
  · obtain ⟨b8, o8, ha⟩ := hx5 p
    obtain ⟨r1, r2⟩ := (h1.fr0 f).dropRow 5 rfl e5 l5 ha p
    exact ⟨fun q => ⟨_, by have := r1 q; rw [rows7_5 _ _ r.page r.on r.goal] at this; exact this, h2.upd 5 (by omega) _ rfl h2.n1 h2.n2 h2.l1 h2.l2 (Nat.zero_le _)⟩, fun q => ⟨_, by have := r2 q; rw [rows7_5 _ _ r.page r.on r.goal] at this; exact this, h2.upd 5 (by omega) _ rfl h2.n1 h2.n2 h2.l1 h2.l2 (Nat.zero_le _)⟩⟩
  · obtain ⟨b8, o8, ha⟩ := hx6 p
    obtain ⟨r1, r2⟩ := (h1.fr0 f).dropRow 6 rfl e6 l6 ha p
    exact ⟨fun q => ⟨_, by have := r1 q; rw [rows7_6 _ _ r.page r.on r.goal] at this; exact this, h2.upd 6 (by omega) _ rfl h2.n1 h2.n2 h2.l1 h2.l2 (Nat.zero_le _)⟩, fun q => ⟨_, by have := r2 q; rw [rows7_6 _ _ r.page r.on r.goal] at this; exact this, h2.upd 6 (by omega) _ rfl h2.n1 h2.n2 h2.l1 h2.l2 (Nat.zero_le _)⟩⟩
end
end Go.Proofs.Ytebhpihickmekaa

/-
  Package hatcheckref07's P: miss.
-/
import Derived.Test.YtebhpihickmekaaRef07C
namespace Go.Proofs.Ytebhpihickmekaa
open Go.RowKit
set_option linter.unusedVariables false

theorem SlK.drop1 {k : IntKind} {w : World} {b off c : Nat} {l : List Nat} (h : SlK k w (.slice (some ⟨b, off, none⟩) l.length c) l) (h1 : 1 ≤ l.length) : (c = 1 → SlK k w (.slice (some ⟨b, off, none⟩) 0 0) (l.drop 1)) ∧ (¬ c = 1 → SlK k w (.slice (some ⟨b, off + 1, none⟩) (l.length - 1) (c - 1)) (l.drop 1)) := by
  obtain ⟨_, _, e, h3, _⟩ := h.shape
  simp only [Value.slice.injEq] at e
  obtain ⟨_, _, rfl⟩ := e
  constructor
  · rintro rfl
    have hl : l.drop 1 = [] := by apply List.eq_nil_of_length_eq_zero; rw [List.length_drop]; omega
    rw [hl]
    refine ⟨_, 0, rfl, by simp, by simp, Nat.le_refl _, by unfold maxLen; omega, .inr ⟨b, off, rfl, h.lt b rfl, fun j u hj => by simp at hj⟩⟩
  · intro hc
    obtain ⟨b', off', e, h4⟩ := SlC.cut h (lo := 1) (hi := l.length) h1 (Nat.le_refl _) rfl (by omega)
    simp only [Option.some.injEq, Addr.mk.injEq] at e
    obtain ⟨rfl, rfl, _⟩ := e
    unfold SlK
    rw [List.length_drop, List.map_drop]
    have e2 : ((l.map fun (x : Nat) => Value.int k (x : Int)).drop (1 * 1)).take ((l.length - 1) * 1) = (l.map fun (x : Nat) => Value.int k (x : Int)).drop 1 := by
      rw [Nat.mul_one, Nat.mul_one, List.take_of_length_le (by simp)]
    rw [e2] at h4
    exact h4


/-- A row without its eldest. -/
theorem PS.dropRow {w0 w : World} {D0 : Nat → Prop} {pb gb ob n : Nat} {hc : Nat → Value} {rows : RowsF} {page : List Nat} {on : Nat → Bool} (h : PS w0 D0 pb 8 gb ob n w hc rows page on) (i : Nat) {l : List Nat} (e : rows i = some (.u32, l)) {a : Option Addr} {L c b8 o8 : Nat} (hi : hc i = .slice a L c) (hL : L = l.length) (ha : a = some ⟨b8, o8, none⟩) (h1 : 1 ≤ L) :
    (c = 1 → PS w0 D0 pb 8 gb ob n (w.setCell ⟨pb, i, none⟩ (.slice a 0 0)) (upd hc i (.slice a 0 0)) (upd rows i (some (.u32, l.drop 1))) page on) ∧
    (¬ c = 1 → PS w0 D0 pb 8 gb ob n (w.setCell ⟨pb, i, none⟩ (.slice (Option.map (fun (x : Addr) => (⟨x.block, x.off + 1, none⟩ : Addr)) a) (L - 1) (c - 1))) (upd hc i (.slice (Option.map (fun (x : Addr) => (⟨x.block, x.off + 1, none⟩ : Addr)) a) (L - 1) (c - 1))) (upd rows i (some (.u32, l.drop 1))) page on) := by
  subst hL ha
  have hs := (h.g.sl i .u32 l e).1
  rw [hi] at hs
  have hd := hs.drop1 h1
  have hb : (hc i).ownBlock = some b8 := by rw [hi]; rfl
  exact ⟨fun q => h.setRow i (hd.1 q) (fun b q => .inr ⟨i, .u32, l, e, by rw [hb]; exact q⟩), fun q => h.setRow i (hd.2 q) (fun b q => .inr ⟨i, .u32, l, e, by rw [hb]; exact q⟩)⟩
section
variable {w w' w'' : World} {pb gb ob n : Nat} {hc : Nat → Value} {s s' : S7}
/-- A row that isn't empty, and where it lies. -/
theorem PG.rowAt (h : PG w pb 8 gb ob n hc (rows7 s) s.page s.on) {i : Nat} {l : List Nat} (e : rows7 s i = some (.u32, l)) : ∃ a L c, hc i = .slice a L c ∧ L = l.length ∧ L ≤ c ∧ c ≤ maxLen ∧ SlK .u32 w (.slice a l.length c) l ∧ (1 ≤ L → ∃ b8 o8, a = some ⟨b8, o8, none⟩) := by
  obtain ⟨a, c, e1, h1, h2, h3, _⟩ := h.row e
  refine ⟨a, l.length, c, e1, rfl, h1, h2, h3, fun h4 => ?_⟩
  obtain ⟨b, off, c', e2, _⟩ := SlC.at h3 (k := 0) (by omega) (by omega)
  simp only [Value.slice.injEq] at e2
  exact ⟨b, off, e2.1⟩
theorem Res7.fr0 (h : Res7 w pb gb ob n hc s s' w') (f : Fr NoF w' w'') : Res7 w pb gb ob n hc s s' w'' := by
  obtain ⟨hc', h1, h2⟩ := h
  exact ⟨hc', h1.fr0 f, h2⟩
theorem Res7.goal (h : PS w (DP pb gb ob hc (rows7 s)) pb 8 gb ob n w' hc (rows7 s) s.page s.on) (hh : H7 n s gb ob hc) (g : Nat) (hg : g ≤ n) : Res7 w pb gb ob n hc s ⟨s.page, s.on, s.t1, s.t2, s.b1, s.b2, g⟩ (w'.setCell ⟨pb, 7, none⟩ (.int .i64 g)) :=
  ⟨_, h.setNum 7 (by simp [rows7]) _, by rw [upd_other _ _ (by omega)]; exact hh.c0, by rw [upd_other _ _ (by omega)]; exact hh.c1, by rw [upd_other _ _ (by omega)]; exact hh.c2, upd_same _ _ _, hh.n1, hh.n2, hh.l1, hh.l2, hh.bl, hg⟩

set_option maxHeartbeats 4000000 in
theorem s7_miss0 (h : PG w pb 8 gb ob n hc (rows7 s) s.page s.on) (hh : H7 n s gb ob hc) {id : Nat} (hm : id ∈ s.b1) : Calls Try.prog 21 #[.pointer (some ⟨pb, 0, none⟩), .int .u32 id] w fun e w' => e = .returned (.tuple #[]) ∧ Res7 w pb gb ob n hc s (s.miss n id) w' := by
  obtain ⟨a5, L5, k5, e5, l5, q1, q2, hs5, _⟩ := h.rowAt (i := 5) (l := s.b1) rfl
  obtain ⟨a6, L6, k6, e6, l6, q3, q4, hs6, _⟩ := h.rowAt (i := 6) (l := s.b2) rfl
  have hn := h.hn
  have hbl := hh.bl
  have hgl := hh.gl
  have c5 := h.c 5 (by omega) e5
  have c6 := h.c 6 (by omega) e6
  have h1 : 1 ≤ s.b1.length := by
    cases e : s.b1 with
    | nil => rw [e] at hm; cases hm
    | cons x l => simp
  have HI5 := in_calls hs5 (by omega) id
  rw [← l5, show decide (id ∈ s.b1) = true from by simp [hm]] at HI5
  replace HI5 := Lib.hid HI5
  have HP : Hid (∀ w', Fr NoF w w' → w'.cell? ⟨pb, 0, none⟩ = some (.int .i64 n) ∧ w'.cell? ⟨pb, 5, none⟩ = some (.slice a5 L5 k5) ∧ w'.cell? ⟨pb, 6, none⟩ = some (.slice a6 L6 k6) ∧ w'.cell? ⟨pb, 7, none⟩ = some (.int .i64 (s.goal : Nat)) ∧ w'.frozen? ⟨pb, 7, none⟩ = false ∧ pb < w'.heap.size) := fun w' f =>
    ⟨(h.fr0 f).c 0 (by omega) hh.c0, (h.fr0 f).c 5 (by omega) e5, (h.fr0 f).c 6 (by omega) e6, (h.fr0 f).c 7 (by omega) hh.c7, (h.fr0 f).hd.frozen 7, (h.fr0 f).hd.lt⟩
  have HM : Hid (s.miss n id = ⟨s.page, s.on, s.t1, s.t2, s.b1, s.b2, min (s.goal + stq s.b1.length s.b2.length) n⟩) := by unfold Hid S7.miss; rw [if_pos hm]
  have KEY : Hid (∀ w', Fr NoF w w' → Res7 w pb gb ob n hc s ⟨s.page, s.on, s.t1, s.t2, s.b1, s.b2, min (s.goal + stq s.b1.length s.b2.length) n⟩ (w'.setCell ⟨pb, 7, none⟩ (.int .i64 (min (s.goal + stq s.b1.length s.b2.length) n : Nat)))) := fun w' f => Res7.goal ((PS.start h).fr0 f) hh _ (Nat.min_le_right _ _)
  have hle := Nat.div_le_self s.b2.length s.b1.length
  have hdv : wrap64 ((s.b2.length : Int) / (s.b1.length : Int)) = ((s.b2.length / s.b1.length : Nat) : Int) := by
    rw [← Int.natCast_ediv]
    generalize s.b2.length / s.b1.length = q at hle
    exact IntWalk.wrap64_in _ (by omega)
  have hst : Hid (stq s.b1.length s.b2.length = max 1 (s.b2.length / s.b1.length)) := rfl
  rw [HM.out]
  rw [hst.out] at KEY ⊢
  clear h hh hm HM hst hs5 hs6 e5 e6
  rw [← l5] at hle hdv h1 KEY ⊢
  rw [← l6] at hle hdv KEY ⊢
  have hL : L5 + L6 ≤ n := by omega
  clear l5 l6 hbl
  generalize L6 / L5 = q at *
  generalize s.goal = g at *
  obtain ⟨v, hv1, hv2⟩ : ∃ v : Nat, v = max 1 q ∧ 1 ≤ v := ⟨_, rfl, by omega⟩
  rw [← hv1] at KEY ⊢
  by_cases hq : 1 < q
  · by_cases hg : g + q ≤ n
    · have hnv : min (g + v) n = g + q := by omega
      rw [hnv] at KEY ⊢
      have hcast : Hid (((g + q : Nat) : Int) = (g : Int) + q) := by unfold Hid; omega
      have z1 : 1 < (q : Int) := by omega
      have z2 : (g : Int) + q ≤ (n : Int) := by omega
      have gw : IntKind.i64.wrap ((g : Int) + (q : Int)) = (g : Int) + (q : Int) := IntWalk.i64_in _ (by omega)
      have KEY2 : Hid (∀ w', Fr NoF w w' → Res7 w pb gb ob n hc s ⟨s.page, s.on, s.t1, s.t2, s.b1, s.b2, g + q⟩ (w'.setCell ⟨pb, 7, none⟩ (.int .i64 ((g : Int) + q)))) := by
        intro w' f
        have := KEY.out w' f
        rw [hcast.out] at this
        exact this
      clear hcast KEY hnv hv1 hv2 hq hg
      go_enter Try.func21, Try.ntmps21
      go_wp2_with fail
      refine HI5.out.mono ?_
      rintro e w1 ⟨rfl, f1⟩
      obtain ⟨g0, g5, g6, g7, gf, gl⟩ := HP.out w1 f1
      have F1 := Lib.hid f1
      clear f1
      go_wp2_with fail
      go_region
      all_goals
        go_wp2
        go_returns
        first | exact ⟨rfl, KEY2.out _ F1.out⟩ | exact ⟨rfl, Res7.fr0 (KEY2.out _ F1.out) ((Fr.refl NoF _).drew)⟩
    · have hnv : min (g + v) n = n := by omega
      rw [hnv] at KEY ⊢
      have hcast : Hid (((n : Nat) : Int) = (n : Int)) := by unfold Hid; omega
      have z1 : 1 < (q : Int) := by omega
      have z2 : (n : Int) < (g : Int) + q := by omega
      have gw : IntKind.i64.wrap ((g : Int) + (q : Int)) = (g : Int) + (q : Int) := IntWalk.i64_in _ (by omega)
      have KEY2 : Hid (∀ w', Fr NoF w w' → Res7 w pb gb ob n hc s ⟨s.page, s.on, s.t1, s.t2, s.b1, s.b2, n⟩ (w'.setCell ⟨pb, 7, none⟩ (.int .i64 ((n : Int))))) := by
        intro w' f
        have := KEY.out w' f
        rw [hcast.out] at this
        exact this
      clear hcast KEY hnv hv1 hv2 hq hg
      go_enter Try.func21, Try.ntmps21
      go_wp2_with fail
      refine HI5.out.mono ?_
      rintro e w1 ⟨rfl, f1⟩
      obtain ⟨g0, g5, g6, g7, gf, gl⟩ := HP.out w1 f1
      have F1 := Lib.hid f1
      clear f1
      go_wp2_with fail
      go_region
      all_goals
        go_wp2
        go_returns
        first | exact ⟨rfl, KEY2.out _ F1.out⟩ | exact ⟨rfl, Res7.fr0 (KEY2.out _ F1.out) ((Fr.refl NoF _).drew)⟩
  · by_cases hg : g + 1 ≤ n
    · have hnv : min (g + v) n = g + 1 := by omega
      rw [hnv] at KEY ⊢
      have hcast : Hid (((g + 1 : Nat) : Int) = (g : Int) + 1) := by unfold Hid; omega
      have z1 : (q : Int) ≤ 1 := by omega
      have z2 : (g : Int) + 1 ≤ (n : Int) := by omega
      have gw : IntKind.i64.wrap ((g : Int) + 1) = (g : Int) + 1 := IntWalk.i64_in _ (by omega)
      have KEY2 : Hid (∀ w', Fr NoF w w' → Res7 w pb gb ob n hc s ⟨s.page, s.on, s.t1, s.t2, s.b1, s.b2, g + 1⟩ (w'.setCell ⟨pb, 7, none⟩ (.int .i64 ((g : Int) + 1)))) := by
        intro w' f
        have := KEY.out w' f
        rw [hcast.out] at this
        exact this
      clear hcast KEY hnv hv1 hv2 hq hg
      go_enter Try.func21, Try.ntmps21
      go_wp2_with fail
      refine HI5.out.mono ?_
      rintro e w1 ⟨rfl, f1⟩
      obtain ⟨g0, g5, g6, g7, gf, gl⟩ := HP.out w1 f1
      have F1 := Lib.hid f1
      clear f1
      go_wp2_with fail
      go_region
      all_goals
        go_wp2
        go_returns
        first | exact ⟨rfl, KEY2.out _ F1.out⟩ | exact ⟨rfl, Res7.fr0 (KEY2.out _ F1.out) ((Fr.refl NoF _).drew)⟩
    · have hnv : min (g + v) n = n := by omega
      rw [hnv] at KEY ⊢
      have hcast : Hid (((n : Nat) : Int) = (n : Int)) := by unfold Hid; omega
      have z1 : (q : Int) ≤ 1 := by omega
      have z2 : (n : Int) < (g : Int) + 1 := by omega
      have gw : IntKind.i64.wrap ((g : Int) + 1) = (g : Int) + 1 := IntWalk.i64_in _ (by omega)
      have KEY2 : Hid (∀ w', Fr NoF w w' → Res7 w pb gb ob n hc s ⟨s.page, s.on, s.t1, s.t2, s.b1, s.b2, n⟩ (w'.setCell ⟨pb, 7, none⟩ (.int .i64 ((n : Int))))) := by
        intro w' f
        have := KEY.out w' f
        rw [hcast.out] at this
        exact this
      clear hcast KEY hnv hv1 hv2 hq hg
      go_enter Try.func21, Try.ntmps21
      go_wp2_with fail
      refine HI5.out.mono ?_
      rintro e w1 ⟨rfl, f1⟩
      obtain ⟨g0, g5, g6, g7, gf, gl⟩ := HP.out w1 f1
      have F1 := Lib.hid f1
      clear f1
      go_wp2_with fail
      go_region
      all_goals
        go_wp2
        go_returns
        first | exact ⟨rfl, KEY2.out _ F1.out⟩ | exact ⟨rfl, Res7.fr0 (KEY2.out _ F1.out) ((Fr.refl NoF _).drew)⟩

set_option maxHeartbeats 4000000 in
theorem s7_miss1 (h : PG w pb 8 gb ob n hc (rows7 s) s.page s.on) (hh : H7 n s gb ob hc) {id : Nat} (hm0 : ¬ id ∈ s.b1) (hm : id ∈ s.b2) : Calls Try.prog 21 #[.pointer (some ⟨pb, 0, none⟩), .int .u32 id] w fun e w' => e = .returned (.tuple #[]) ∧ Res7 w pb gb ob n hc s (s.miss n id) w' := by
  obtain ⟨a5, L5, k5, e5, l5, q1, q2, hs5, _⟩ := h.rowAt (i := 5) (l := s.b1) rfl
  obtain ⟨a6, L6, k6, e6, l6, q3, q4, hs6, _⟩ := h.rowAt (i := 6) (l := s.b2) rfl
  have hn := h.hn
  have hbl := hh.bl
  have hgl := hh.gl
  have c5 := h.c 5 (by omega) e5
  have c6 := h.c 6 (by omega) e6
  have h1 : 1 ≤ s.b2.length := by
    cases e : s.b2 with
    | nil => rw [e] at hm; cases hm
    | cons x l => simp
  have HI5 := in_calls hs5 (by omega) id
  rw [← l5, show decide (id ∈ s.b1) = false from by simp [hm0]] at HI5
  replace HI5 := Lib.hid HI5
  have HI6 : Hid (∀ w', Fr NoF w w' → Calls Try.prog 42 #[.slice a6 L6 k6, .int .u32 id] w' fun e w'' => e = .returned (.bool true) ∧ Fr NoF w' w'') := by
    intro w' f
    have := in_calls (hs6.keep f) (by omega) id
    rw [← l6, show decide (id ∈ s.b2) = true from by simp [hm]] at this
    exact this
  have HP : Hid (∀ w', Fr NoF w w' → w'.cell? ⟨pb, 0, none⟩ = some (.int .i64 n) ∧ w'.cell? ⟨pb, 5, none⟩ = some (.slice a5 L5 k5) ∧ w'.cell? ⟨pb, 6, none⟩ = some (.slice a6 L6 k6) ∧ w'.cell? ⟨pb, 7, none⟩ = some (.int .i64 (s.goal : Nat)) ∧ w'.frozen? ⟨pb, 7, none⟩ = false ∧ pb < w'.heap.size) := fun w' f =>
    ⟨(h.fr0 f).c 0 (by omega) hh.c0, (h.fr0 f).c 5 (by omega) e5, (h.fr0 f).c 6 (by omega) e6, (h.fr0 f).c 7 (by omega) hh.c7, (h.fr0 f).hd.frozen 7, (h.fr0 f).hd.lt⟩
  have HM : Hid (s.miss n id = ⟨s.page, s.on, s.t1, s.t2, s.b1, s.b2, s.goal - stq s.b2.length s.b1.length⟩) := by unfold Hid S7.miss; rw [if_neg hm0, if_pos hm]
  have KEY : Hid (∀ w', Fr NoF w w' → Res7 w pb gb ob n hc s ⟨s.page, s.on, s.t1, s.t2, s.b1, s.b2, s.goal - stq s.b2.length s.b1.length⟩ (w'.setCell ⟨pb, 7, none⟩ (.int .i64 (s.goal - stq s.b2.length s.b1.length : Nat)))) := fun w' f => Res7.goal ((PS.start h).fr0 f) hh _ (Nat.le_trans (Nat.sub_le _ _) hh.gl)
  have hle := Nat.div_le_self s.b1.length s.b2.length
  have hdv : wrap64 ((s.b1.length : Int) / (s.b2.length : Int)) = ((s.b1.length / s.b2.length : Nat) : Int) := by
    rw [← Int.natCast_ediv]
    generalize s.b1.length / s.b2.length = q at hle
    exact IntWalk.wrap64_in _ (by omega)
  have hst : Hid (stq s.b2.length s.b1.length = max 1 (s.b1.length / s.b2.length)) := rfl
  rw [HM.out]
  rw [hst.out] at KEY ⊢
  clear h hh hm HM hst hs5 hs6 e5 e6 hm0
  rw [← l6] at hle hdv h1 KEY ⊢
  rw [← l5] at hle hdv KEY ⊢
  have hL : L5 + L6 ≤ n := by omega
  clear l5 l6 hbl
  generalize L5 / L6 = q at *
  generalize s.goal = g at *
  obtain ⟨v, hv1, hv2⟩ : ∃ v : Nat, v = max 1 q ∧ 1 ≤ v := ⟨_, rfl, by omega⟩
  rw [← hv1] at KEY ⊢
  by_cases hq : 1 < q
  · by_cases hg : q ≤ g
    · have hnv : g - v = g - q := by omega
      rw [hnv] at KEY ⊢
      have hcast : Hid (((g - q : Nat) : Int) = (g : Int) - q) := by unfold Hid; omega
      have z1 : 1 < (q : Int) := by omega
      have z2 : 0 ≤ (g : Int) - q := by omega
      have gw : IntKind.i64.wrap ((g : Int) - (q : Int)) = (g : Int) - (q : Int) := IntWalk.i64_in _ (by omega)
      have KEY2 : Hid (∀ w', Fr NoF w w' → Res7 w pb gb ob n hc s ⟨s.page, s.on, s.t1, s.t2, s.b1, s.b2, g - q⟩ (w'.setCell ⟨pb, 7, none⟩ (.int .i64 ((g : Int) - q)))) := by
        intro w' f
        have := KEY.out w' f
        rw [hcast.out] at this
        exact this
      clear hcast KEY hnv hv1 hv2 hq hg
      go_enter Try.func21, Try.ntmps21
      go_wp2_with fail
      refine HI5.out.mono ?_
      rintro e w1 ⟨rfl, f1⟩
      obtain ⟨g0, g5, g6, g7, gf, gl⟩ := HP.out w1 f1
      have F1 := Lib.hid f1
      clear f1
      go_wp2_with fail
      refine (HI6.out _ F1.out).mono ?_
      rintro e w2 ⟨rfl, f2⟩
      have f2' := F1.out.trans f2 (fun _ q => q.elim)
      obtain ⟨i0, i5, i6, i7, if7, il⟩ := HP.out w2 f2'
      have F2 := Lib.hid f2'
      clear f2 f2' g0 g5 g6 g7 gf gl
      go_wp2_with fail
      go_region
      all_goals
        go_wp2
        go_returns
        first | exact ⟨rfl, KEY2.out _ F2.out⟩ | exact ⟨rfl, Res7.fr0 (KEY2.out _ F2.out) ((Fr.refl NoF _).drew)⟩
    · have hnv : g - v = 0 := by omega
      rw [hnv] at KEY ⊢
      have hcast : Hid (((0 : Nat) : Int) = 0) := by unfold Hid; omega
      have z1 : 1 < (q : Int) := by omega
      have z2 : (g : Int) - q < 0 := by omega
      have gw : IntKind.i64.wrap ((g : Int) - (q : Int)) = (g : Int) - (q : Int) := IntWalk.i64_in _ (by omega)
      have KEY2 : Hid (∀ w', Fr NoF w w' → Res7 w pb gb ob n hc s ⟨s.page, s.on, s.t1, s.t2, s.b1, s.b2, 0⟩ (w'.setCell ⟨pb, 7, none⟩ (.int .i64 (0)))) := by
        intro w' f
        have := KEY.out w' f
        rw [hcast.out] at this
        exact this
      clear hcast KEY hnv hv1 hv2 hq hg
      go_enter Try.func21, Try.ntmps21
      go_wp2_with fail
      refine HI5.out.mono ?_
      rintro e w1 ⟨rfl, f1⟩
      obtain ⟨g0, g5, g6, g7, gf, gl⟩ := HP.out w1 f1
      have F1 := Lib.hid f1
      clear f1
      go_wp2_with fail
      refine (HI6.out _ F1.out).mono ?_
      rintro e w2 ⟨rfl, f2⟩
      have f2' := F1.out.trans f2 (fun _ q => q.elim)
      obtain ⟨i0, i5, i6, i7, if7, il⟩ := HP.out w2 f2'
      have F2 := Lib.hid f2'
      clear f2 f2' g0 g5 g6 g7 gf gl
      go_wp2_with fail
      go_region
      all_goals
        go_wp2
        go_returns
        first | exact ⟨rfl, KEY2.out _ F2.out⟩ | exact ⟨rfl, Res7.fr0 (KEY2.out _ F2.out) ((Fr.refl NoF _).drew)⟩
  · by_cases hg : 1 ≤ g
    · have hnv : g - v = g - 1 := by omega
      rw [hnv] at KEY ⊢
      have hcast : Hid (((g - 1 : Nat) : Int) = (g : Int) - 1) := by unfold Hid; omega
      have z1 : (q : Int) ≤ 1 := by omega
      have z2 : 0 ≤ (g : Int) - 1 := by omega
      have gw : IntKind.i64.wrap ((g : Int) - 1) = (g : Int) - 1 := IntWalk.i64_in _ (by omega)
      have KEY2 : Hid (∀ w', Fr NoF w w' → Res7 w pb gb ob n hc s ⟨s.page, s.on, s.t1, s.t2, s.b1, s.b2, g - 1⟩ (w'.setCell ⟨pb, 7, none⟩ (.int .i64 ((g : Int) - 1)))) := by
        intro w' f
        have := KEY.out w' f
        rw [hcast.out] at this
        exact this
      clear hcast KEY hnv hv1 hv2 hq hg
      go_enter Try.func21, Try.ntmps21
      go_wp2_with fail
      refine HI5.out.mono ?_
      rintro e w1 ⟨rfl, f1⟩
      obtain ⟨g0, g5, g6, g7, gf, gl⟩ := HP.out w1 f1
      have F1 := Lib.hid f1
      clear f1
      go_wp2_with fail
      refine (HI6.out _ F1.out).mono ?_
      rintro e w2 ⟨rfl, f2⟩
      have f2' := F1.out.trans f2 (fun _ q => q.elim)
      obtain ⟨i0, i5, i6, i7, if7, il⟩ := HP.out w2 f2'
      have F2 := Lib.hid f2'
      clear f2 f2' g0 g5 g6 g7 gf gl
      go_wp2_with fail
      go_region
      all_goals
        go_wp2
        go_returns
        first | exact ⟨rfl, KEY2.out _ F2.out⟩ | exact ⟨rfl, Res7.fr0 (KEY2.out _ F2.out) ((Fr.refl NoF _).drew)⟩
    · have hnv : g - v = 0 := by omega
      rw [hnv] at KEY ⊢
      have hcast : Hid (((0 : Nat) : Int) = 0) := by unfold Hid; omega
      have z1 : (q : Int) ≤ 1 := by omega
      have z2 : (g : Int) - 1 < 0 := by omega
      have gw : IntKind.i64.wrap ((g : Int) - 1) = (g : Int) - 1 := IntWalk.i64_in _ (by omega)
      have KEY2 : Hid (∀ w', Fr NoF w w' → Res7 w pb gb ob n hc s ⟨s.page, s.on, s.t1, s.t2, s.b1, s.b2, 0⟩ (w'.setCell ⟨pb, 7, none⟩ (.int .i64 (0)))) := by
        intro w' f
        have := KEY.out w' f
        rw [hcast.out] at this
        exact this
      clear hcast KEY hnv hv1 hv2 hq hg
      go_enter Try.func21, Try.ntmps21
      go_wp2_with fail
      refine HI5.out.mono ?_
      rintro e w1 ⟨rfl, f1⟩
      obtain ⟨g0, g5, g6, g7, gf, gl⟩ := HP.out w1 f1
      have F1 := Lib.hid f1
      clear f1
      go_wp2_with fail
      refine (HI6.out _ F1.out).mono ?_
      rintro e w2 ⟨rfl, f2⟩
      have f2' := F1.out.trans f2 (fun _ q => q.elim)
      obtain ⟨i0, i5, i6, i7, if7, il⟩ := HP.out w2 f2'
      have F2 := Lib.hid f2'
      clear f2 f2' g0 g5 g6 g7 gf gl
      go_wp2_with fail
      go_region
      all_goals
        go_wp2
        go_returns
        first | exact ⟨rfl, KEY2.out _ F2.out⟩ | exact ⟨rfl, Res7.fr0 (KEY2.out _ F2.out) ((Fr.refl NoF _).drew)⟩

set_option maxHeartbeats 4000000 in
theorem s7_miss_none (h : PG w pb 8 gb ob n hc (rows7 s) s.page s.on) (hh : H7 n s gb ob hc) {id : Nat} (hm0 : ¬ id ∈ s.b1) (hm : ¬ id ∈ s.b2) : Calls Try.prog 21 #[.pointer (some ⟨pb, 0, none⟩), .int .u32 id] w fun e w' => e = .returned (.tuple #[]) ∧ Res7 w pb gb ob n hc s (s.miss n id) w' := by
  obtain ⟨a3, k3, e3, q5, q6, _, _⟩ := h.row (i := 3) (k := .i64) (l := s.t1) rfl
  obtain ⟨a4, k4, e4, q7, q8, _, _⟩ := h.row (i := 4) (k := .i64) (l := s.t2) rfl
  obtain ⟨a5, L5, k5, e5, l5, q1, q2, hs5, hx5⟩ := h.rowAt (i := 5) (l := s.b1) rfl
  obtain ⟨a6, L6, k6, e6, l6, q3, q4, hs6, hx6⟩ := h.rowAt (i := 6) (l := s.b2) rfl
  have hn := h.hn
  have hbl := hh.bl
  have hl3 := len_lt hh.n1 hh.l1
  have hl4 := len_lt hh.n2 hh.l2
  have c5 := h.c 5 (by omega) e5
  have HI5 := in_calls hs5 (by omega) id
  rw [← l5, show decide (id ∈ s.b1) = false from by simp [hm0]] at HI5
  replace HI5 := Lib.hid HI5
  have HI6 : Hid (∀ w', Fr NoF w w' → Calls Try.prog 42 #[.slice a6 L6 k6, .int .u32 id] w' fun e w'' => e = .returned (.bool false) ∧ Fr NoF w' w'') := by
    intro w' f
    have := in_calls (hs6.keep f) (by omega) id
    rw [← l6, show decide (id ∈ s.b2) = false from by simp [hm]] at this
    exact this
  have HP : Hid (∀ w', Fr NoF w w' → w'.cell? ⟨pb, 0, none⟩ = some (.int .i64 n) ∧ w'.cell? ⟨pb, 3, none⟩ = some (.slice a3 s.t1.length k3) ∧ w'.cell? ⟨pb, 4, none⟩ = some (.slice a4 s.t2.length k4) ∧ w'.cell? ⟨pb, 5, none⟩ = some (.slice a5 L5 k5) ∧ w'.cell? ⟨pb, 6, none⟩ = some (.slice a6 L6 k6) ∧ w'.frozen? ⟨pb, 5, none⟩ = false ∧ w'.frozen? ⟨pb, 6, none⟩ = false ∧ pb < w'.heap.size) := fun w' f =>
    ⟨(h.fr0 f).c 0 (by omega) hh.c0, (h.fr0 f).c 3 (by omega) e3, (h.fr0 f).c 4 (by omega) e4, (h.fr0 f).c 5 (by omega) e5, (h.fr0 f).c 6 (by omega) e6, (h.fr0 f).hd.frozen 5, (h.fr0 f).hd.frozen 6, (h.fr0 f).hd.lt⟩
  have HM : Hid (s.miss n id = if n ≤ s.t1.length + s.b1.length then ⟨s.page, s.on, s.t1, s.t2, s.b1.drop 1, s.b2, s.goal⟩
    else if 2 * n ≤ s.t1.length + s.t2.length + s.b1.length + s.b2.length then ⟨s.page, s.on, s.t1, s.t2, s.b1, s.b2.drop 1, s.goal⟩ else s) := by unfold Hid S7.miss; rw [if_neg hm0, if_neg hm]
  have K0 : Hid (∀ w', Fr NoF w w' → Res7 w pb gb ob n hc s s w') := fun w' f => ⟨hc, (PS.start h).fr0 f, hh⟩
  have KX : Hid (L5 = 0 → (⟨s.page, s.on, s.t1, s.t2, s.b1.drop 1, s.b2, s.goal⟩ : S7) = s) := by
    intro q
    have : s.b1 = [] := List.eq_nil_of_length_eq_zero (by omega)
    rw [this]; show (⟨s.page, s.on, s.t1, s.t2, [], s.b2, s.goal⟩ : S7) = s
    rw [← this]
  have KY : Hid (L6 = 0 → (⟨s.page, s.on, s.t1, s.t2, s.b1, s.b2.drop 1, s.goal⟩ : S7) = s) := by
    intro q
    have : s.b2 = [] := List.eq_nil_of_length_eq_zero (by omega)
    rw [this]; show (⟨s.page, s.on, s.t1, s.t2, s.b1, [], s.goal⟩ : S7) = s
    rw [← this]
  have K5 : Hid (∀ w', Fr NoF w w' → 1 ≤ L5 → (k5 = 1 → Res7 w pb gb ob n hc s ⟨s.page, s.on, s.t1, s.t2, s.b1.drop 1, s.b2, s.goal⟩ (w'.setCell ⟨pb, 5, none⟩ (.slice a5 0 0))) ∧ (¬ k5 = 1 → Res7 w pb gb ob n hc s ⟨s.page, s.on, s.t1, s.t2, s.b1.drop 1, s.b2, s.goal⟩ (w'.setCell ⟨pb, 5, none⟩ (.slice (Option.map (fun (x : Addr) => (⟨x.block, x.off + 1, none⟩ : Addr)) a5) (L5 - 1) (k5 - 1))))) := by
    intro w' f h1
    obtain ⟨b8, o8, ha⟩ := hx5 h1
    obtain ⟨r1, r2⟩ := ((PS.start h).fr0 f).dropRow 5 rfl e5 l5 ha h1
    have hle : (s.b1.drop 1).length + s.b2.length ≤ n := by rw [List.length_drop]; omega
    refine ⟨fun q => ⟨_, by have := r1 q; rw [rows7_5 s _ s.page s.on s.goal] at this; exact this, hh.upd 5 (by omega) _ rfl hh.n1 hh.n2 hh.l1 hh.l2 hle⟩, fun q => ⟨_, by have := r2 q; rw [rows7_5 s _ s.page s.on s.goal] at this; exact this, hh.upd 5 (by omega) _ rfl hh.n1 hh.n2 hh.l1 hh.l2 hle⟩⟩
  have K6 : Hid (∀ w', Fr NoF w w' → 1 ≤ L6 → (k6 = 1 → Res7 w pb gb ob n hc s ⟨s.page, s.on, s.t1, s.t2, s.b1, s.b2.drop 1, s.goal⟩ (w'.setCell ⟨pb, 6, none⟩ (.slice a6 0 0))) ∧ (¬ k6 = 1 → Res7 w pb gb ob n hc s ⟨s.page, s.on, s.t1, s.t2, s.b1, s.b2.drop 1, s.goal⟩ (w'.setCell ⟨pb, 6, none⟩ (.slice (Option.map (fun (x : Addr) => (⟨x.block, x.off + 1, none⟩ : Addr)) a6) (L6 - 1) (k6 - 1))))) := by
    intro w' f h1
    obtain ⟨b8, o8, ha⟩ := hx6 h1
    obtain ⟨r1, r2⟩ := ((PS.start h).fr0 f).dropRow 6 rfl e6 l6 ha h1
    have hle : s.b1.length + (s.b2.drop 1).length ≤ n := by rw [List.length_drop]; omega
    refine ⟨fun q => ⟨_, by have := r1 q; rw [rows7_6 s _ s.page s.on s.goal] at this; exact this, hh.upd 6 (by omega) _ rfl hh.n1 hh.n2 hh.l1 hh.l2 hle⟩, fun q => ⟨_, by have := r2 q; rw [rows7_6 s _ s.page s.on s.goal] at this; exact this, hh.upd 6 (by omega) _ rfl hh.n1 hh.n2 hh.l1 hh.l2 hle⟩⟩
  rw [HM.out]
  rw [← l5, ← l6] at hbl ⊢
  clear h hh hm hm0 HM hs5 hs6 e3 e4 e5 e6 hx5 hx6 l5 l6
  generalize s.t1.length = L3 at *
  generalize s.t2.length = L4 at *
  have gw1 : IntKind.i64.wrap ((L3 : Int) + (L5 : Int)) = (L3 : Int) + L5 := IntWalk.i64_in _ (by omega)
  have gw2 : IntKind.i64.wrap ((L3 : Int) + (L4 : Int)) = (L3 : Int) + L4 := IntWalk.i64_in _ (by omega)
  have gw3 : IntKind.i64.wrap ((L3 : Int) + (L4 : Int) + (L5 : Int)) = (L3 : Int) + L4 + L5 := IntWalk.i64_in _ (by omega)
  have gw4 : IntKind.i64.wrap ((L3 : Int) + (L4 : Int) + (L5 : Int) + (L6 : Int)) = (L3 : Int) + L4 + L5 + L6 := IntWalk.i64_in _ (by omega)
  have gw5 : IntKind.i64.wrap (2 * (n : Int)) = 2 * (n : Int) := IntWalk.i64_in _ (by omega)
  by_cases hA : n ≤ L3 + L5
  · rw [if_pos hA]
    have hA' : (n : Int) ≤ (L3 : Int) + L5 := by omega
    by_cases h1 : 1 ≤ L5
    · by_cases hk : k5 = 1
      · obtain rfl : k5 = 1 := hk
        obtain rfl : L5 = 1 := by omega
        clear hA
        go_enter Try.func21, Try.ntmps21
        go_wp2_with fail
        refine HI5.out.mono ?_
        rintro e w1 ⟨rfl, f1⟩
        obtain ⟨g0, g3, g4, g5, g6, gf5, gf6, gl⟩ := HP.out w1 f1
        have F1 := Lib.hid f1
        clear f1
        go_wp2_with fail
        refine (HI6.out _ F1.out).mono ?_
        rintro e w2 ⟨rfl, f2⟩
        have f2' := F1.out.trans f2 (fun _ q => q.elim)
        obtain ⟨i0, i3, i4, i5, i6, if5, if6, il⟩ := HP.out w2 f2'
        have F2 := Lib.hid f2'
        clear f2 f2' g0 g3 g4 g5 g6 gf5 gf6 gl
        go_wp2_with fail
        go_quiet (fail)
        go_wp2
        go_returns
        exact ⟨rfl, (K5.out _ (F2.out.drewN _) (by omega)).1 (by first | rfl | trivial)⟩
      · have h1' : 1 ≤ (L5 : Int) := by omega
        clear hA
        go_enter Try.func21, Try.ntmps21
        go_wp2_with fail
        refine HI5.out.mono ?_
        rintro e w1 ⟨rfl, f1⟩
        obtain ⟨g0, g3, g4, g5, g6, gf5, gf6, gl⟩ := HP.out w1 f1
        have F1 := Lib.hid f1
        clear f1
        go_wp2_with fail
        refine (HI6.out _ F1.out).mono ?_
        rintro e w2 ⟨rfl, f2⟩
        have f2' := F1.out.trans f2 (fun _ q => q.elim)
        obtain ⟨i0, i3, i4, i5, i6, if5, if6, il⟩ := HP.out w2 f2'
        have F2 := Lib.hid f2'
        clear f2 f2' g0 g3 g4 g5 g6 gf5 gf6 gl
        go_wp2_with fail
        go_quiet (fail)
        go_wp2
        go_returns
        exact ⟨rfl, (K5.out _ (F2.out.drewN _) h1).2 hk⟩
    · obtain rfl : L5 = 0 := by omega
      rw [KX.out rfl]
      clear hA
      go_enter Try.func21, Try.ntmps21
      go_wp2_with fail
      refine HI5.out.mono ?_
      rintro e w1 ⟨rfl, f1⟩
      obtain ⟨g0, g3, g4, g5, g6, gf5, gf6, gl⟩ := HP.out w1 f1
      have F1 := Lib.hid f1
      clear f1
      go_wp2_with fail
      refine (HI6.out _ F1.out).mono ?_
      rintro e w2 ⟨rfl, f2⟩
      have f2' := F1.out.trans f2 (fun _ q => q.elim)
      obtain ⟨i0, i3, i4, i5, i6, if5, if6, il⟩ := HP.out w2 f2'
      have F2 := Lib.hid f2'
      clear f2 f2' g0 g3 g4 g5 g6 gf5 gf6 gl
      go_wp2_with fail
      go_quiet (fail)
      go_wp2
      go_returns
      exact ⟨rfl, K0.out _ (F2.out.drewN _)⟩
  · rw [if_neg hA]
    have hA' : (L3 : Int) + L5 < (n : Int) := by omega
    by_cases hB : 2 * n ≤ L3 + L4 + L5 + L6
    · rw [if_pos hB]
      have hB' : 2 * (n : Int) ≤ (L3 : Int) + L4 + L5 + L6 := by omega
      by_cases h1 : 1 ≤ L6
      · by_cases hk : k6 = 1
        · obtain rfl : k6 = 1 := hk
          obtain rfl : L6 = 1 := by omega
          have hB'' : 2 * (n : Int) ≤ (L3 : Int) + L4 + L5 + 1 := by omega
          clear hA hB hB' gw4
          have gw4 : IntKind.i64.wrap ((L3 : Int) + (L4 : Int) + (L5 : Int) + 1) = (L3 : Int) + L4 + L5 + 1 := IntWalk.i64_in _ (by omega)
          go_enter Try.func21, Try.ntmps21
          go_wp2_with fail
          refine HI5.out.mono ?_
          rintro e w1 ⟨rfl, f1⟩
          obtain ⟨g0, g3, g4, g5, g6, gf5, gf6, gl⟩ := HP.out w1 f1
          have F1 := Lib.hid f1
          clear f1
          go_wp2_with fail
          refine (HI6.out _ F1.out).mono ?_
          rintro e w2 ⟨rfl, f2⟩
          have f2' := F1.out.trans f2 (fun _ q => q.elim)
          obtain ⟨i0, i3, i4, i5, i6, if5, if6, il⟩ := HP.out w2 f2'
          have F2 := Lib.hid f2'
          clear f2 f2' g0 g3 g4 g5 g6 gf5 gf6 gl
          go_wp2_with fail
          go_quiet (fail)
          go_wp2
          go_quiet (fail)
          go_wp2
          go_returns
          exact ⟨rfl, (K6.out _ ((F2.out.drewN _)) (by omega)).1 (by first | rfl | trivial)⟩
        · have h1' : 1 ≤ (L6 : Int) := by omega
          clear hA hB
          go_enter Try.func21, Try.ntmps21
          go_wp2_with fail
          refine HI5.out.mono ?_
          rintro e w1 ⟨rfl, f1⟩
          obtain ⟨g0, g3, g4, g5, g6, gf5, gf6, gl⟩ := HP.out w1 f1
          have F1 := Lib.hid f1
          clear f1
          go_wp2_with fail
          refine (HI6.out _ F1.out).mono ?_
          rintro e w2 ⟨rfl, f2⟩
          have f2' := F1.out.trans f2 (fun _ q => q.elim)
          obtain ⟨i0, i3, i4, i5, i6, if5, if6, il⟩ := HP.out w2 f2'
          have F2 := Lib.hid f2'
          clear f2 f2' g0 g3 g4 g5 g6 gf5 gf6 gl
          go_wp2_with fail
          go_quiet (fail)
          go_wp2
          go_quiet (fail)
          go_wp2
          go_returns
          exact ⟨rfl, (K6.out _ ((F2.out.drewN _)) h1).2 hk⟩
      · omega
    · rw [if_neg hB]
      have hB' : (L3 : Int) + L4 + L5 + L6 < 2 * (n : Int) := by omega
      have hBd : decide (2 * (n : Int) ≤ (L3 : Int) + L4 + L5 + L6) = false := by simp; omega
      clear hA hB
      go_enter Try.func21, Try.ntmps21
      go_wp2_with fail
      refine HI5.out.mono ?_
      rintro e w1 ⟨rfl, f1⟩
      obtain ⟨g0, g3, g4, g5, g6, gf5, gf6, gl⟩ := HP.out w1 f1
      have F1 := Lib.hid f1
      clear f1
      go_wp2_with fail
      refine (HI6.out _ F1.out).mono ?_
      rintro e w2 ⟨rfl, f2⟩
      have f2' := F1.out.trans f2 (fun _ q => q.elim)
      obtain ⟨i0, i3, i4, i5, i6, if5, if6, il⟩ := HP.out w2 f2'
      have F2 := Lib.hid f2'
      clear f2 f2' g0 g3 g4 g5 g6 gf5 gf6 gl
      go_wp2_with fail
      go_quiet (fail)
      go_wp2
      go_quiet (fail)
      go_wp2
      go_returns
      exact ⟨rfl, K0.out _ (by repeat (first | exact F2.out | apply Fr.drewN))⟩

theorem s7_miss (h : PG w pb 8 gb ob n hc (rows7 s) s.page s.on) (hh : H7 n s gb ob hc) (id : Nat) : Calls Try.prog 21 #[.pointer (some ⟨pb, 0, none⟩), .int .u32 id] w fun e w' => e = .returned (.tuple #[]) ∧ Res7 w pb gb ob n hc s (s.miss n id) w' := by
  by_cases h1 : id ∈ s.b1
  · exact s7_miss0 h hh h1
  · by_cases h2 : id ∈ s.b2
    · exact s7_miss1 h hh h1 h2
    · exact s7_miss_none h hh h1 h2
end
end Go.Proofs.Ytebhpihickmekaa

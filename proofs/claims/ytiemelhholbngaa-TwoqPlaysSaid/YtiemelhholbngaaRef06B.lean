/-
  Package hatcheckref06's P: access.
-/
import Derived.Test.YtiemelhholbngaaRef06A
namespace Go.Proofs.Ytiemelhholbngaa
open Go.RowKit
set_option linter.unusedVariables false

section
variable {w w' : World} {pb gb ob n inn out : Nat} {hc : Nat → Value} {s : S6}

set_option maxHeartbeats 1000000 in
theorem s6_access_new (h : PG w pb 8 gb ob n hc (rows6 s) s.page s.on) (hh : H6 n inn out s gb ob hc) {a : Nat} (ha : a < n) (id : Nat) (hm : a ∈ s.nw) : Calls Try.prog 23 #[.pointer (some ⟨pb, 0, none⟩), .int .i64 a, .int .u32 id] w fun e w' => e = .returned (.tuple #[]) ∧ Res6 w pb gb ob n inn out hc s (s.access a id) w' := by
  have c3 := h.c 3 (by omega) hh.c3
  have cp := h.cp ha
  have fp := h.pg.frozen a
  have hn := h.hn
  have lg := h.pg.lt
  have dn : ¬ gb = pb := fun e => h.d1 e.symm
  generalize s.page.getD a 0 = y at cp
  have hS := (PS.start h).setPage ha id
  obtain ⟨a5, k5, e5, q1, q2, hs5, _⟩ := hS.g.row (i := 5) (k := .i64) (l := s.nw) rfl
  have c5 := h.c 5 (by omega) e5
  have hl5 := len_lt hh.nn hh.nl
  have HC := has_calls hs5 (by omega) a
  rw [show decide (a ∈ s.nw) = true from by simp [hm]] at HC
  have H := Lib.hid HC
  have R : Hid (∀ w', Fr NoF (w.setCell ⟨gb, a, none⟩ (.int .u32 id)) w' → Res6 w pb gb ob n inn out hc s (s.access a id) w') := by
    intro w' f
    have e : s.access a id = ⟨s.page.set a id, s.on, s.nw, s.mn, s.old⟩ := by simp [S6.access, hm]
    rw [e]
    exact ⟨hc, hS.fr0 f, hh.c0, hh.c1, hh.c2, hh.c3, hh.c4, hh.nn, hh.mm, hh.nl, hh.ml, hh.ol, hh.li, hh.lo⟩
  clear h hh hS hs5 HC hm e5
  go_enter Try.func23, Try.ntmps23
  go_wp2_with fail
  refine H.out.mono ?_
  clear H
  rintro e w1 ⟨rfl, hf⟩
  have R1 := Lib.hid (R.out w1 hf)
  clear hf R
  go_wp2
  go_returns
  exact ⟨rfl, R1.out⟩

set_option maxHeartbeats 2000000 in
theorem s6_access_main (h : PG w pb 8 gb ob n hc (rows6 s) s.page s.on) (hh : H6 n inn out s gb ob hc) {a : Nat} (ha : a < n) (id : Nat) (hm : ¬ a ∈ s.nw) (hor : a ∈ s.mn ∨ id ∈ s.old) : Calls Try.prog 23 #[.pointer (some ⟨pb, 0, none⟩), .int .i64 a, .int .u32 id] w fun e w' => e = .returned (.tuple #[]) ∧ Res6 w pb gb ob n inn out hc s (s.access a id) w' := by
  have c3 := h.c 3 (by omega) hh.c3
  have cp := h.cp ha
  have fp := h.pg.frozen a
  have hn := h.hn
  have lg := h.pg.lt
  have dn : ¬ gb = pb := fun e => h.d1 e.symm
  generalize s.page.getD a 0 = y at cp
  have hS := (PS.start h).setPage ha id
  obtain ⟨a5, k5, e5, q1, q2, hs5, _⟩ := hS.g.row (i := 5) (k := .i64) (l := s.nw) rfl
  obtain ⟨a6, k6, e6, q3, q4, _, _⟩ := hS.g.row (i := 6) (k := .i64) (l := s.mn) rfl
  obtain ⟨a7, k7, e7, q5, q6, _, _⟩ := hS.g.row (i := 7) (k := .u32) (l := s.old) rfl
  have c5 := h.c 5 (by omega) e5
  have hl5 := len_lt hh.nn hh.nl
  have hl6 := len_lt hh.mm hh.ml
  have hl7 := hh.ol
  have hl8 := hh.lo
  have HC := has_calls hs5 (by omega) a
  rw [show decide (a ∈ s.nw) = false from by simp [hm]] at HC
  have H := Lib.hid HC
  have E : Hid (s.access a id = ⟨s.page.set a id, s.on, s.nw, backN s.mn a, awayN s.old id⟩) := by simp [Hid, S6.access, hm, hor]
  have HH := Lib.hid hh
  have HS := Lib.hid hS
  have HB : Hid (decide (a ∈ s.mn) = true ∨ (decide (a ∈ s.mn) = false ∧ decide (id ∈ s.old) = true)) := by
    unfold Hid
    by_cases q : a ∈ s.mn
    · exact .inl (by simp [q])
    · exact .inr ⟨by simp [q], by simpa using hor.resolve_left q⟩
  have E6 := Lib.hid e6
  have E7 := Lib.hid e7
  clear h hh hS hs5 HC hm e5 e6 e7 hor
  go_enter Try.func23, Try.ntmps23
  go_wp2_with fail
  refine H.out.mono ?_
  clear H
  rintro e w1 ⟨rfl, hf1⟩
  have hS1 := HS.out.fr0 hf1
  have d7 := hS1.g.c 7 (by omega) E7.out
  have HW := Lib.hid (WithoutPage_calls (by have := (hS1.g.sl 7 .u32 s.old rfl).1; rw [E7.out] at this; exact this) (by omega) id)
  have HC6' : Hid (∀ w', Fr NoF w1 w' → Calls Try.prog 38 #[.slice a6 s.mn.length k6, .int .i64 a] w' fun e w'' => e = .returned (.bool (decide (a ∈ s.mn))) ∧ Fr NoF w' w'') := by
    intro w' f
    exact has_calls (by have := ((hS1.fr0 f).g.sl 6 .i64 s.mn rfl).1; rw [E6.out] at this; exact this) (by omega) a
  have HS1 := Lib.hid hS1
  generalize decide (a ∈ s.mn) = bm at *
  generalize decide (id ∈ s.old) = bo at *
  clear hf1 hS1 HS
  go_wp2_with fail
  refine HW.out.mono ?_
  clear HW
  rintro e w2 ⟨v2, rfl, ho2, hf2⟩
  have hS2 := HS1.out.fr0 hf2
  have d6 := hS2.g.c 6 (by omega) E6.out
  have HC6 := Lib.hid (HC6'.out w2 hf2)
  have HS2 := Lib.hid hS2
  have HO2 := Lib.hid ho2
  have HSZ : Hid (w.heap.size ≤ w1.heap.size) := by have := HS1.out.f.size; exact this
  obtain ⟨a2, k2, rfl, _, _⟩ := ho2.sl.shape
  clear ho2 hf2 hS2 HC6'
  go_wp2_with fail
  refine HC6.out.mono ?_
  clear HC6
  rintro e w3 ⟨rfl, hf3⟩
  have hS3 := HS2.out.fr0 hf3
  have hs2 : SlK .u32 w3 (.slice a2 (awayN s.old id).length k2) (awayN s.old id) := HO2.out.sl.keep hf3
  have hb2 : ∀ b, (Value.slice a2 (awayN s.old id).length k2).ownBlock = some b → w.heap.size ≤ b ∧ ¬ b = pb ∧ ¬ b = gb ∧ ¬ b = ob := fun b hb => by
    have := HO2.out.base b hb
    exact ⟨Nat.le_trans HSZ.out this, HS1.out.g.fresh this⟩
  have hS4 := hS3.setRow 7 hs2 (fun b hb => .inl (hb2 b hb))
  rw [rows6_7 s _ (s.page.set a id) s.on] at hS4
  have d7' := hS3.g.c 7 (by omega) E7.out
  have f7 := hS3.g.hd.frozen 7
  have lp := hS3.g.hd.lt
  have e6' : upd hc 7 (.slice a2 (awayN s.old id).length k2) 6 = .slice a6 s.mn.length k6 := by rw [upd_other _ _ (by omega)]; exact E6.out
  have d6' := hS4.g.c 6 (by omega) e6'
  have HW6 := Lib.hid (Without_calls (by have := (hS4.g.sl 6 .i64 s.mn rfl).1; rw [e6'] at this; exact this) (by omega) a)
  have HS4 := Lib.hid hS4
  have hle := awayN_le a s.mn
  have HP6 : Hid (∀ w', Fr NoF (w3.setCell ⟨pb, 7, none⟩ (.slice a2 (awayN s.old id).length k2)) w' → w'.cell? ⟨pb, 6, none⟩ = some (.slice a6 s.mn.length k6) ∧ w'.frozen? ⟨pb, 6, none⟩ = false ∧ pb < w'.heap.size) := fun w' f =>
    ⟨(HS4.out.fr0 f).g.c 6 (by omega) e6', (HS4.out.fr0 f).g.hd.frozen 6, (HS4.out.fr0 f).g.hd.lt⟩
  have E6' := Lib.hid e6'
  clear hf3 hS3 hs2 hb2 hS4 e6' HS1 HS2 HO2 HSZ HP6
  rcases HB.out with rfl | ⟨rfl, rfl⟩
  all_goals
    clear HB
    go_wp2_with fail
    refine HW6.out.mono ?_
    clear HW6
    rintro e w5 ⟨v5, rfl, ho5, hf5⟩
    obtain ⟨a5', k5', rfl, _, _⟩ := ho5.sl.shape
    have HO5 := Lib.hid ho5
    have HF5 := Lib.hid hf5
    have hs5 := hf5.size
    simp only [World.size_setCell] at hs5
    clear ho5 hf5
    go_wp2_with (at_builtin; go_must (refine appLB (base := (w3.setCell ⟨pb, 7, none⟩ (.slice a2 (awayN s.old id).length k2)).heap.size) EIi rfl _ _ rfl (by rfl) (by rfl) (by simp; omega) (own_keep HO5.out ((Fr.refl NoF _).alloc _) (fun _ _ q => q)) (SlC.ofOwn (own_new (w0 := w5) (Nat.le_refl _) #[.int .i64 a] 3 1 1 _ rfl rfl (by unfold maxLen; omega)) (by simp [Value.oneCell'])) (by unfold maxLen; omega) (by omega) ?_); intro v' w6 hown hf6 hob6; obtain ⟨⟨a6', c6', rfl⟩, hg6, hp6⟩ := HS4.out.push HF5.out HO5.out _ hown hf6 6; have g6 := hg6.c 6 (by omega) E6'.out; have gf := hg6.hd.frozen 6; have gl := hg6.hd.lt; have HP := Lib.hid hp6; clear hown hf6 hob6 hg6 hp6)
    go_returns
    refine ⟨rfl, ?_⟩
    have hp := HP.out
    rw [rows6_6 _ _ (s.page.set a id) s.on] at hp
    rw [E.out]
    have hh := HH.out
    have h7 : H6 n inn out ⟨s.page.set a id, s.on, s.nw, s.mn, awayN s.old id⟩ gb ob (upd hc 7 (.slice a2 (awayN s.old id).length k2)) := hh.upd 7 (by omega) _ hh.nn hh.mm hh.nl hh.ml (Nat.le_trans (awayN_le _ _) hh.ol)
    refine ⟨_, hp, h7.upd 6 (by omega) _ hh.nn (nodup_back hh.mm a) hh.nl (fun x hx => ?_) (Nat.le_trans (awayN_le _ _) hh.ol)⟩
    rcases mem_backN.1 hx with q | q
    · exact hh.ml x q
    · omega
set_option maxHeartbeats 2000000 in
theorem s6_access_old (h : PG w pb 8 gb ob n hc (rows6 s) s.page s.on) (hh : H6 n inn out s gb ob hc) {a : Nat} (ha : a < n) (id : Nat) (hm : ¬ a ∈ s.nw) (hn1 : ¬ a ∈ s.mn) (hn2 : ¬ id ∈ s.old) : Calls Try.prog 23 #[.pointer (some ⟨pb, 0, none⟩), .int .i64 a, .int .u32 id] w fun e w' => e = .returned (.tuple #[]) ∧ Res6 w pb gb ob n inn out hc s (s.access a id) w' := by
  have c3 := h.c 3 (by omega) hh.c3
  have cp := h.cp ha
  have fp := h.pg.frozen a
  have hn := h.hn
  have lg := h.pg.lt
  have dn : ¬ gb = pb := fun e => h.d1 e.symm
  generalize s.page.getD a 0 = y at cp
  have hS := (PS.start h).setPage ha id
  obtain ⟨a5, k5, e5, q1, q2, hs5, _⟩ := hS.g.row (i := 5) (k := .i64) (l := s.nw) rfl
  obtain ⟨a6, k6, e6, q3, q4, _, _⟩ := hS.g.row (i := 6) (k := .i64) (l := s.mn) rfl
  obtain ⟨a7, k7, e7, q5, q6, _, _⟩ := hS.g.row (i := 7) (k := .u32) (l := s.old) rfl
  have c5 := h.c 5 (by omega) e5
  have hl5 := len_lt hh.nn hh.nl
  have hl6 := len_lt hh.mm hh.ml
  have hl7 := hh.ol
  have hl8 := hh.lo
  have HC := has_calls hs5 (by omega) a
  rw [show decide (a ∈ s.nw) = false from by simp [hm]] at HC
  have H := Lib.hid HC
  have E : Hid (s.access a id = ⟨s.page.set a id, s.on, s.nw ++ [a], s.mn, s.old⟩) := by simp [Hid, S6.access, hm, hn1, hn2]
  have HH := Lib.hid hh
  have HS := Lib.hid hS
  have E6 := Lib.hid e6
  have E7 := Lib.hid e7
  have E5 := Lib.hid e5
  have HM := Lib.hid hm
  have B1 : Hid (decide (a ∈ s.mn) = false) := by simp [Hid, hn1]
  have B2 : Hid (decide (id ∈ s.old) = false) := by simp [Hid, hn2]
  clear h hh hS hs5 HC hm e5 hn1 hn2 e6 e7
  go_enter Try.func23, Try.ntmps23
  go_wp2_with fail
  refine H.out.mono ?_
  clear H
  rintro e w1 ⟨rfl, hf1⟩
  have hS1 := HS.out.fr0 hf1
  have d7 := hS1.g.c 7 (by omega) E7.out
  have HW := (WithoutPage_calls (by have := (hS1.g.sl 7 .u32 s.old rfl).1; rw [E7.out] at this; exact this) (by omega) id)
  have HC6' : (∀ w', Fr NoF w1 w' → Calls Try.prog 38 #[.slice a6 s.mn.length k6, .int .i64 a] w' fun e w'' => e = .returned (.bool (decide (a ∈ s.mn))) ∧ Fr NoF w' w'') := by
    intro w' f
    exact has_calls (by have := ((hS1.fr0 f).g.sl 6 .i64 s.mn rfl).1; rw [E6.out] at this; exact this) (by omega) a
  have HS1 := Lib.hid hS1
  rw [B2.out] at HW
  replace HW := Lib.hid HW
  rw [B1.out] at HC6'
  replace HC6' := Lib.hid HC6'
  clear hf1 hS1 HS
  go_wp2_with fail
  refine HW.out.mono ?_
  clear HW
  rintro e w2 ⟨v2, rfl, ho2, hf2⟩
  have hS2 := HS1.out.fr0 hf2
  have d6 := hS2.g.c 6 (by omega) E6.out
  have HC6 := Lib.hid (HC6'.out w2 hf2)
  have HS2 := Lib.hid hS2
  have HO2 := Lib.hid ho2
  have HSZ : Hid (w.heap.size ≤ w1.heap.size) := by have := HS1.out.f.size; exact this
  obtain ⟨a2, k2, rfl, _, _⟩ := ho2.sl.shape
  clear ho2 hf2 hS2 HC6'
  go_wp2_with fail
  refine HC6.out.mono ?_
  clear HC6
  rintro e w3 ⟨rfl, hf3⟩
  have hS3 := HS2.out.fr0 hf3
  have HS3 := Lib.hid hS3
  have d5 := hS3.g.c 5 (by omega) E5.out
  have lpb := hS3.g.hd.lt
  have hs5 : SlK .i64 w3 (.slice a5 s.nw.length k5) s.nw := by have := (hS3.g.sl 5 .i64 s.nw rfl).1; rw [E5.out] at this; exact this
  have HS5 := Lib.hid hs5
  clear hf3 hS3 HS1 HS2 HO2 HSZ hs5
  go_wp2_with (first
    | (at_builtin; (refine appLB (base := w3.heap.size) EIi rfl _ _ rfl (by rfl) (by rfl) (by simp) (own_new (w0 := w3) (Nat.le_refl _) #[] 3 1 0 _ rfl rfl (by unfold maxLen; omega)) (HS5.out.keep ((Fr.refl NoF _).alloc _)) (by unfold maxLen; omega) (by omega) ?_); intro v5 w5 hown hf5 hob5; obtain ⟨⟨a5', c5', rfl⟩, ho5, f5⟩ := own_copy rfl hown hf5; have HO5 := Lib.hid ho5; have HF5 := Lib.hid f5; have hs5 := f5.size; clear hown hf5 hob5 ho5 f5)
    | (at_builtin; go_must (refine appLB (base := w3.heap.size) EIi rfl _ _ rfl (by rfl) (by rfl) (by simp; omega) (own_keep HO5.out ((Fr.refl NoF _).alloc _) (fun _ _ q => q)) (SlC.ofOwn (own_new (w0 := w5) (Nat.le_refl _) #[.int .i64 a] 3 1 1 _ rfl rfl (by unfold maxLen; omega)) (by simp [Value.oneCell'])) (by unfold maxLen; omega) (by omega) ?_); intro v' w6 hown hf6 hob6; obtain ⟨⟨a6', c6', rfl⟩, hg6, hp6⟩ := HS3.out.push HF5.out HO5.out _ hown hf6 5; have g5 := hg6.c 5 (by omega) E5.out; have gf := hg6.hd.frozen 5; have gl := hg6.hd.lt; have HP := Lib.hid hp6; clear hown hf6 hob6 hg6 hp6))
  go_returns
  refine ⟨rfl, ?_⟩
  have hp := HP.out
  rw [rows6_5 _ _ (s.page.set a id) s.on] at hp
  rw [E.out]
  have hh := HH.out
  refine ⟨_, hp, hh.upd 5 (by omega) _ ?_ hh.mm (fun x hx => ?_) hh.ml hh.ol⟩
  · show (s.nw ++ [a]).Nodup
    rw [List.nodup_append]
    refine ⟨hh.nn, by simp, fun x hx y hy e => ?_⟩
    rw [List.mem_singleton.1 hy] at e
    subst e
    exact HM.out hx
  · have hx : x ∈ s.nw ++ [a] := hx
    rcases List.mem_append.1 hx with q | q
    · exact hh.nl x q
    · rw [List.mem_singleton.1 q]; exact ha
end
end Go.Proofs.Ytiemelhholbngaa

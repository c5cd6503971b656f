/-
  Package hatcheckref06's P: victim.
-/
import Derived.Test.YtiemelhholbngaaRef06C
namespace Go.Proofs.Ytiemelhholbngaa
open Go.RowKit
set_option linter.unusedVariables false

section
variable {w w' w'' : World} {pb gb ob n inn out : Nat} {hc : Nat → Value} {s s' : S6}
theorem Res6.trans0 (f : Fr NoF w w') (h : Res6 w' pb gb ob n inn out hc s s' w'') : Res6 w pb gb ob n inn out hc s s' w'' := by
  obtain ⟨hc', h1, h2⟩ := h
  refine ⟨hc', ⟨h1.g, (f.mono (fun _ q => q.elim)).trans h1.f (fun _ q => .inl q), fun j q => (h1.d j q).imp id (fun q => Nat.le_trans f.size q)⟩, h2⟩

theorem s6_first_new (h : PG w pb 8 gb ob n hc (rows6 s) s.page s.on) (hh : H6 n inn out s gb ob hc) (d : Nat) : Calls Try.prog 37 #[hc 5, .slice (some ⟨ob, 0, none⟩) n n] (w.drewN d) fun e w' => e = .returned (.int .i64 (fstI (s.nw.find? s.on))) ∧ w.drewN d = w' := by
  have hP := h.fr0 ((Fr.refl NoF w).drewN d)
  have := len_lt hh.nn hh.nl
  have := h.hn
  exact First_calls (hP.sl 5 .i64 s.nw rfl).1 (fun x hx => ⟨hh.nl x hx, hP.co (hh.nl x hx)⟩) (by omega) (by omega)
theorem s6_first_main (h : PG w pb 8 gb ob n hc (rows6 s) s.page s.on) (hh : H6 n inn out s gb ob hc) (d : Nat) : Calls Try.prog 37 #[hc 6, .slice (some ⟨ob, 0, none⟩) n n] (w.drewN d) fun e w' => e = .returned (.int .i64 (fstI (s.mn.find? s.on))) ∧ w.drewN d = w' := by
  have hP := h.fr0 ((Fr.refl NoF w).drewN d)
  have := len_lt hh.mm hh.ml
  have := h.hn
  exact First_calls (hP.sl 6 .i64 s.mn rfl).1 (fun x hx => ⟨hh.ml x hx, hP.co (hh.ml x hx)⟩) (by omega) (by omega)

set_option maxHeartbeats 2000000 in
theorem s6_victim_no (h : PG w pb 8 gb ob n hc (rows6 s) s.page s.on) (hh : H6 n inn out s gb ob hc) (p : Int) (hv : s.vic inn = none) : Calls Try.prog 22 #[.pointer (some ⟨pb, 0, none⟩), .int .u32 p] w fun e w' => e = .returned (.int .i64 (-1)) ∧ ∃ d, w.drewN d = w' := by
  have hA : s.nw.find? s.on = none ∧ s.mn.find? s.on = none := by
    unfold S6.vic at hv
    split at hv
    · rename_i q
      refine ⟨hv, ?_⟩
      rcases q with q | q
      · rw [hv] at q; simp at q
      · exact q
    · rename_i q
      exact (q (.inr hv)).elim
  have HA := s6_first_new h hh
  have HB := s6_first_main h hh
  rw [hA.1] at HA
  rw [hA.2] at HB
  simp only [fstI] at HA HB
  obtain ⟨a5, k5, e5, q1, q2, _, _⟩ := h.row (i := 5) (k := .i64) (l := s.nw) rfl
  obtain ⟨a6, k6, e6, q3, q4, _, _⟩ := h.row (i := 6) (k := .i64) (l := s.mn) rfl
  rw [e5] at HA
  rw [e6] at HB
  have c5 := h.c 5 (by omega) e5
  have c6 := h.c 6 (by omega) e6
  have c4 := h.c 4 (by omega) hh.c4
  have c1 := h.c 1 (by omega) hh.c1
  have HA' := Lib.hid HA
  have HB' := Lib.hid HB
  generalize s.nw.length = L5 at *
  generalize s.mn.length = L6 at *
  clear h hh hv hA e5 e6 HA HB
  by_cases ht : inn < L5
  all_goals
    go_enter Try.func22, Try.ntmps22
    go_wp2
    go_quiet ((first | (go_at_call 37; with_reducible exact qs (HA'.out _)) | (go_at_call 37; with_reducible exact qs (HB'.out _))))
    go_wp2
    go_quiet (fail)
    go_wp2
    go_returns
    exact ⟨rfl, _, rfl⟩

theorem S6.gone_eq (out : Nat) (s : S6) (f : Nat) : s.gone out f = if f ∈ s.nw then ⟨s.page.set f 0, upd s.on f false, awayN s.nw f, awayN s.mn f, cutOld out (s.old ++ [s.page.getD f 0])⟩ else s.remove f := rfl
theorem vic_some {s : S6} {inn f : Nat} (hv : s.vic inn = some f) : f ∈ s.nw ∨ f ∈ s.mn := by
  unfold S6.vic at hv
  split at hv
  · exact .inl (List.mem_of_find?_eq_some hv)
  · exact .inr (List.mem_of_find?_eq_some hv)

/-- The row of remembered pages behind a push, and what may be asked of it. -/
theorem pushed {w0 wA w5 w6 : World} {D0 : Nat → Prop} {e : TypeId} {rows : RowsF} {page : List Nat} {on : Nat → Bool} {l : List Nat} {v5 v' v7 v2 : Value} {x : Nat} (h : PS w0 D0 pb 8 gb ob n wA hc rows page on) (f5 : Fr NoF wA w5) (ho5 : OwK .u32 wA.heap.size e w5 v5 l) (o : Obj)
    (hown : w6.ownsRow wA.heap.size e 1 v' (l.length + 1) ((l.map fun (x : Nat) => Value.int .u32 (x : Int)) ++ [Value.int .u32 (x : Int)])) (hfr : Fr (fun b => v5.ownBlock = some b) (w5.alloc o) w6) (e7 : hc 7 = v7) (e2 : hc 2 = v2) :
    ∃ a c L b off, L = (l ++ [x]).length ∧ v' = .slice a L c ∧ a = some ⟨b, off, none⟩ ∧ L ≤ c ∧ c ≤ maxLen ∧ w6.cell? ⟨pb, 7, none⟩ = some v7 ∧ w6.cell? ⟨pb, 2, none⟩ = some v2 ∧ w6.frozen? ⟨pb, 7, none⟩ = false ∧ pb < w6.heap.size ∧
      PS w0 D0 pb 8 gb ob n (w6.setCell ⟨pb, 7, none⟩ (.slice a L c)) (upd hc 7 (.slice a L c)) (upd rows 7 (some (.u32, l ++ [x]))) page on := by
  obtain ⟨_, hg, hp⟩ := h.push f5 ho5 o hown hfr 7
  have ho : OwK .u32 wA.heap.size e w6 v' (l ++ [x]) := OwK.snoc hown
  obtain ⟨b, off, c, rfl, h1, h2, h3, _⟩ := ho.sl.at (i := 0) (by simp)
  exact ⟨_, c, _, b, off, rfl, rfl, rfl, h1, h2, hg.c 7 (by omega) e7, hg.c 2 (by omega) e2, hg.hd.frozen 7, hg.hd.lt, hp⟩

theorem SlK.drop1 {k : IntKind} {w : World} {b off c : Nat} {l : List Nat} (h : SlK k w (.slice (some ⟨b, off, none⟩) l.length c) l) (h1 : 1 ≤ l.length) : (c = 1 → SlK k w (.slice (some ⟨b, off, none⟩) 0 0) (l.drop 1)) ∧ (¬ c = 1 → SlK k w (.slice (some ⟨b, off + 1, none⟩) (l.length - 1) (c - 1)) (l.drop 1)) := by
  obtain ⟨_, _, e, h3, _⟩ := h.shape
  simp only [Value.slice.injEq] at e
  obtain ⟨_, _, rfl⟩ := e
  constructor
  · rintro rfl
    have hl : l.drop 1 = [] := by apply List.eq_nil_of_length_eq_zero; rw [List.length_drop]; omega
    rw [hl]
    refine ⟨_, 0, rfl, by simp, by simp, Nat.le_refl _, by unfold maxLen; omega, .inr ⟨b, off, rfl, h.lt b rfl, fun j u hj => by simp at hj⟩⟩
  · intro hc
    obtain ⟨b', off', e, h4⟩ := SlC.cut h (lo := 1) (hi := l.length) h1 (Nat.le_refl _) rfl (by omega)
    simp only [Option.some.injEq, Addr.mk.injEq] at e
    obtain ⟨rfl, rfl, _⟩ := e
    unfold SlK
    rw [List.length_drop, List.map_drop]
    have e2 : ((l.map fun (x : Nat) => Value.int k (x : Int)).drop (1 * 1)).take ((l.length - 1) * 1) = (l.map fun (x : Nat) => Value.int k (x : Int)).drop 1 := by
      rw [Nat.mul_one, Nat.mul_one, List.take_of_length_le (by simp)]
    rw [e2] at h4
    exact h4

/-- Behind a page that is remembered, where it is the last of too many: the eldest is forgotten. -/
theorem cut_left {w0 w8 : World} {D0 : Nat → Prop} {hc4 : Nat → Value} {id f L c b8 o8 : Nat} {a8 : Option Addr} (h : PS w0 D0 pb 8 gb ob n w8 (upd hc4 7 (.slice a8 L c)) (upd (rows6 (s.remove f)) 7 (some (.u32, s.old ++ [id]))) (s.remove f).page (s.remove f).on) (hh : H6 n inn out (s.remove f) gb ob hc4)
    (hL : L = (s.old ++ [id]).length) (ha : a8 = some ⟨b8, o8, none⟩) (h1 : 1 ≤ L) (hLc : L ≤ c) (hcm : c ≤ maxLen) (hlt : out < L) (nq : Nat) (hD : D0 = DP pb gb ob hc (rows6 s)) :
    (c = 1 → Res6 w0 pb gb ob n inn out hc s ⟨s.page.set f 0, upd s.on f false, awayN s.nw f, awayN s.mn f, cutOld out (s.old ++ [id])⟩ ((w8.drewN nq).setCell ⟨pb, 7, none⟩ (.slice a8 0 0))) ∧
    (¬ c = 1 → Res6 w0 pb gb ob n inn out hc s ⟨s.page.set f 0, upd s.on f false, awayN s.nw f, awayN s.mn f, cutOld out (s.old ++ [id])⟩ ((w8.drewN nq).setCell ⟨pb, 7, none⟩ (.slice (Option.map (fun (x : Addr) => (⟨x.block, x.off + 1, none⟩ : Addr)) a8) (L - 1) (c - 1)))) := by
  subst hL ha hD
  have hq := h.fr0 ((Fr.refl NoF w8).drewN nq)
  have hs := (hq.g.sl 7 .u32 (s.old ++ [id]) (by rw [upd_same])).1
  rw [upd_same] at hs
  have hd := hs.drop1 h1
  have hcut : cutOld out (s.old ++ [id]) = (s.old ++ [id]).drop 1 := by unfold cutOld; rw [if_pos hlt]
  have hol := hh.ol
  have fin : ∀ v, SlK .u32 (w8.drewN nq) v ((s.old ++ [id]).drop 1) → v.ownBlock = some b8 → Res6 w0 pb gb ob n inn out hc s ⟨s.page.set f 0, upd s.on f false, awayN s.nw f, awayN s.mn f, cutOld out (s.old ++ [id])⟩ ((w8.drewN nq).setCell ⟨pb, 7, none⟩ v) := by
    intro v hv hb
    have h9 := hq.setRow 7 hv (fun b q => .inr ⟨7, .u32, s.old ++ [id], by rw [upd_same], by rw [upd_same]; rw [hb] at q; exact q⟩)
    have e : upd (upd (rows6 (s.remove f)) 7 (some (.u32, s.old ++ [id]))) 7 (some (IntKind.u32, (s.old ++ [id]).drop 1)) = upd (rows6 (s.remove f)) 7 (some (.u32, (s.old ++ [id]).drop 1)) := by
      funext i; unfold upd; split <;> rfl
    rw [e, rows6_7 _ _ (s.page.set f 0) (upd s.on f false), ← hcut] at h9
    refine ⟨_, h9, (hh.upd (s' := s.remove f) 7 (by omega) _ hh.nn hh.mm hh.nl hh.ml hh.ol).upd 7 (by omega) _ hh.nn hh.mm hh.nl hh.ml ?_⟩
    show (cutOld out (s.old ++ [id])).length ≤ out
    rw [hcut, List.length_drop, List.length_append]
    have : (s.remove f).old = s.old := rfl
    rw [this] at hol
    simp; omega
  exact ⟨fun q => fin _ (hd.1 q) rfl, fun q => fin _ (hd.2 q) rfl⟩
/-- .. where it isn't. -/
theorem keep_left {w0 w8 : World} {D0 : Nat → Prop} {hc4 : Nat → Value} {id f L c : Nat} {a8 : Option Addr} (h : PS w0 D0 pb 8 gb ob n w8 (upd hc4 7 (.slice a8 L c)) (upd (rows6 (s.remove f)) 7 (some (.u32, s.old ++ [id]))) (s.remove f).page (s.remove f).on) (hh : H6 n inn out (s.remove f) gb ob hc4)
    (hL : L = (s.old ++ [id]).length) (hlt : ¬ out < L) (nq : Nat) (hD : D0 = DP pb gb ob hc (rows6 s)) :
    Res6 w0 pb gb ob n inn out hc s ⟨s.page.set f 0, upd s.on f false, awayN s.nw f, awayN s.mn f, cutOld out (s.old ++ [id])⟩ (w8.drewN nq) := by
  subst hL hD
  have hq := h.fr0 ((Fr.refl NoF w8).drewN nq)
  have hcut : cutOld out (s.old ++ [id]) = s.old ++ [id] := by unfold cutOld; rw [if_neg hlt]
  rw [rows6_7 _ _ (s.page.set f 0) (upd s.on f false)] at hq
  rw [hcut]
  refine ⟨_, hq, hh.upd 7 (by omega) _ hh.nn hh.mm hh.nl hh.ml ?_⟩
  show (s.old ++ [id]).length ≤ out
  omega

set_option maxHeartbeats 4000000 in
theorem s6_victim_yes (h : PG w pb 8 gb ob n hc (rows6 s) s.page s.on) (hh : H6 n inn out s gb ob hc) (p : Int) {f : Nat} (hv : s.vic inn = some f) : Calls Try.prog 22 #[.pointer (some ⟨pb, 0, none⟩), .int .u32 p] w fun e w' => e = .returned (.int .i64 f) ∧ Res6 w pb gb ob n inn out hc s (s.gone out f) w' := by
  have hf : f < n := by
    rcases vic_some hv with q | q
    · exact hh.nl f q
    · exact hh.ml f q
  have hCS : (∃ i, s.nw.find? s.on = some f ∧ s.mn.find? s.on = i ∧ (inn < s.nw.length ∨ i = none)) ∨ (∃ i, s.mn.find? s.on = some f ∧ s.nw.find? s.on = i ∧ (¬ inn < s.nw.length ∨ i = none)) := by
    unfold S6.vic at hv
    split at hv
    · rename_i q
      exact .inl ⟨_, hv, rfl, q.imp (fun q => q.1) id⟩
    · rename_i q
      refine .inr ⟨_, hv, rfl, ?_⟩
      rcases Nat.lt_or_ge inn s.nw.length with ht | ht
      · right
        cases e : s.nw.find? s.on with
        | none => rfl
        | some x => exact (q (.inl ⟨ht, by rw [e]; rfl⟩)).elim
      · left; omega
  have HA := s6_first_new h hh
  have HB := s6_first_main h hh
  obtain ⟨a5, k5, e5, q1, q2, _, _⟩ := h.row (i := 5) (k := .i64) (l := s.nw) rfl
  obtain ⟨a6, k6, e6, q3, q4, _, _⟩ := h.row (i := 6) (k := .i64) (l := s.mn) rfl
  rw [e5] at HA
  rw [e6] at HB
  have c5 := h.c 5 (by omega) e5
  have c6 := h.c 6 (by omega) e6
  have c4 := h.c 4 (by omega) hh.c4
  have c3 := h.c 3 (by omega) hh.c3
  have c1 := h.c 1 (by omega) hh.c1
  have cp := h.cp hf
  have hl5 := len_lt hh.nn hh.nl
  have hn := h.hn
  have hol := hh.ol
  have hlo := hh.lo
  have HA' := Lib.hid HA
  have HB' := Lib.hid HB
  have HCS := Lib.hid hCS
  have HH := Lib.hid hh
  have HHas : Hid (∀ w', Fr NoF w w' → Calls Try.prog 38 #[.slice a5 s.nw.length k5, .int .i64 f] w' fun e w'' => e = .returned (.bool (decide (f ∈ s.nw))) ∧ Fr NoF w' w'') := by
    intro w' q
    exact has_calls (by have := ((h.fr0 q).sl 5 .i64 s.nw rfl).1; rw [e5] at this; exact this) (by omega) f
  have HP : Hid (∀ w', Fr NoF w w' → w'.cell? ⟨pb, 3, none⟩ = some (.slice (some ⟨gb, 0, none⟩) n n) ∧ w'.cell? ⟨pb, 5, none⟩ = some (.slice a5 s.nw.length k5) ∧ w'.cell? ⟨gb, f, none⟩ = some (.int .u32 (s.page.getD f 0 : Nat))) := fun w' q => ⟨(h.fr0 q).c 3 (by omega) hh.c3, (h.fr0 q).c 5 (by omega) e5, (h.fr0 q).cp hf⟩
  have HRem : Hid (∀ w', Fr NoF w w' → Calls Try.prog 25 #[.pointer (some ⟨pb, 0, none⟩), .int .i64 f] w' fun e w'' => e = .returned (.tuple #[]) ∧ Res6 w pb gb ob n inn out hc s (s.remove f) w'') := by
    intro w' q
    exact (s6_remove (h.fr0 q) hh hf).mono fun e w'' ⟨he, hr⟩ => ⟨he, hr.trans0 q⟩
  have HG := Lib.hid (S6.gone_eq out s f)
  generalize hd : decide (f ∈ s.nw) = bf at HHas
  have HD := Lib.hid hd
  clear hd
  generalize s.page.getD f 0 = id at *
  clear h hh hv e5 e6 HA HB hCS
  have K1 : Hid (∀ x : Nat, fstI (some x) = x) := fun _ => rfl
  have hcases : (∃ A B : Int, (∀ d, Calls Try.prog 37 #[.slice a5 s.nw.length k5, .slice (some ⟨ob, 0, none⟩) n n] (w.drewN d) fun e w' => e = .returned (.int .i64 A) ∧ w.drewN d = w') ∧
      (∀ d, Calls Try.prog 37 #[.slice a6 s.mn.length k6, .slice (some ⟨ob, 0, none⟩) n n] (w.drewN d) fun e w' => e = .returned (.int .i64 B) ∧ w.drewN d = w') ∧
      ((A = (f : Int) ∧ inn < s.nw.length) ∨ (A = (f : Int) ∧ B = -1 ∧ ¬ inn < s.nw.length) ∨ (B = (f : Int) ∧ A = -1 ∧ inn < s.nw.length) ∨ (B = (f : Int) ∧ ¬ inn < s.nw.length))) := by
    refine ⟨_, _, HA'.out, HB'.out, ?_⟩
    rcases HCS.out with ⟨i, hA, hB, hc⟩ | ⟨i, hB, hA, hc⟩
    · rw [hA, hB]
      by_cases ht : inn < s.nw.length
      · exact .inl ⟨rfl, ht⟩
      · refine .inr (.inl ⟨rfl, ?_, ht⟩)
        rw [hc.resolve_left ht]; rfl
    · rw [hA, hB]
      by_cases ht : inn < s.nw.length
      · refine .inr (.inr (.inl ⟨rfl, ?_, ht⟩))
        rw [hc.resolve_left (fun q => q ht)]; rfl
      · exact .inr (.inr (.inr ⟨rfl, ht⟩))
  obtain ⟨A, B, hA2, hB2, hcs⟩ := hcases
  have HA2 := Lib.hid hA2
  have HB2 := Lib.hid hB2
  have hwide : (∃ x, B = x) := ⟨_, rfl⟩
  clear hA2 hB2 HA' HB' HCS K1 hwide
  rcases hcs with ⟨rfl, ht⟩ | ⟨rfl, rfl, ht⟩ | ⟨rfl, rfl, ht⟩ | ⟨rfl, ht⟩
  all_goals
    go_enter Try.func22, Try.ntmps22
    go_wp2
    go_quiet ((first | (go_at_call 37; with_reducible exact qs (HA2.out _)) | (go_at_call 37; with_reducible exact qs (HB2.out _))))
    go_wp2
    go_quiet (fail)
    go_wp2_with fail
    rename_i nq1 nq2
    go_region_held3 (fun w' => w'.cell? ⟨pb, 3, none⟩ = some (.slice (some ⟨gb, 0, none⟩) n n) ∧ w'.cell? ⟨pb, 5, none⟩ = some (.slice a5 s.nw.length k5) ∧ w'.cell? ⟨gb, f, none⟩ = some (.int .u32 id))
      (first | exact ⟨c3, c5, cp⟩ | exact ⟨g3, g5, gp⟩)
      (first
        | (go_at_call 38; refine (HHas.out _ (((Fr.refl NoF w).drewN _).drew)).mono ?_; rintro e w3 ⟨rfl, hf3⟩; have hf3' := (((Fr.refl NoF w).drewN _).drew).trans hf3 (fun _ q => q.elim); obtain ⟨g3, g5, gp⟩ := HP.out w3 hf3'; have HF3 := Lib.hid hf3'; clear hf3 hf3'))
    all_goals
      go_wp2_with fail
      refine (HRem.out _ HF3.out).mono ?_
      rintro e w4 ⟨rfl, hc4, hp4, hh4⟩
      have HP4 := Lib.hid hp4
      have HH4 := Lib.hid hh4
      clear hp4 hh4
      cases bf with
      | false =>
        go_wp2
        go_returns
        refine ⟨rfl, ?_⟩
        rw [HG.out, if_neg (by simpa using HD.out)]
        exact ⟨hc4, HP4.out, HH4.out⟩
      | true =>
        obtain ⟨a7, k7, e7, r1, r2, hs7, _⟩ := HP4.out.g.row (i := 7) (k := .u32) (l := s.old) rfl
        have d7 := HP4.out.g.c 7 (by omega) e7
        have lpb := HP4.out.g.hd.lt
        have HS7 := Lib.hid hs7
        have E7 := Lib.hid e7
        have E2 := Lib.hid HH4.out.c2
        clear e7 hs7
        go_wp2_with (first
          | (at_builtin; (refine appLB (base := w4.heap.size) EIu rfl _ _ rfl (by rfl) (by rfl) (by simp) (own_new (w0 := w4) (Nat.le_refl _) #[] 35 1 0 _ rfl rfl (by unfold maxLen; omega)) (HS7.out.keep ((Fr.refl NoF _).alloc _)) (by unfold maxLen; omega) (by omega) ?_); intro v5 w5 hown hf5 hob5; obtain ⟨⟨a7', c7', rfl⟩, ho5, f5⟩ := own_copy rfl hown hf5; have HO5 := Lib.hid ho5; have HF5 := Lib.hid f5; have hs5 := f5.size; clear hown hf5 hob5 ho5 f5)
          | (at_builtin; go_must (refine appLB (base := w4.heap.size) EIu rfl _ _ rfl (by rfl) (by rfl) (by simp; omega) (own_keep HO5.out ((Fr.refl NoF _).alloc _) (fun _ _ q => q)) (SlC.ofOwn (own_new (w0 := w5) (Nat.le_refl _) #[.int .u32 id] 35 1 1 _ rfl rfl (by unfold maxLen; omega)) (by simp [Value.oneCell'])) (by unfold maxLen; omega) (by omega) ?_); intro v' w6 hown hf6 hob6; obtain ⟨a8, c8, L, b8, o8, hL, rfl, ha8, hLc, hc8, g7, g2, gf, gl, hp6⟩ := pushed HP4.out HF5.out HO5.out _ hown hf6 E7.out E2.out; have HL := Lib.hid hL; have HP6 := Lib.hid hp6; have HA8 := Lib.hid ha8; clear hown hf6 hob6 hp6 hL ha8))
        have hL1 : 1 ≤ L := by have := HL.out; rw [List.length_append] at this; simp at this; omega
        have hL2 : L ≤ 1000 := by have := HL.out; rw [List.length_append] at this; simp at this; omega
        by_cases hlt : out < L
        · have FIN := Lib.hid (fun nq => cut_left HP6.out HH4.out HL.out HA8.out hL1 hLc hc8 hlt nq rfl)
          by_cases hc1 : c8 = 1
          · obtain rfl : c8 = 1 := hc1
            obtain rfl : L = 1 := by omega
            go_quiet (fail)
            go_wp2
            go_returns
            refine ⟨rfl, ?_⟩
            rw [HG.out, if_pos (by simpa using HD.out)]
            exact (FIN.out _).1 (by first | rfl | trivial)
          · go_quiet (fail)
            go_wp2
            go_returns
            refine ⟨rfl, ?_⟩
            rw [HG.out, if_pos (by simpa using HD.out)]
            exact (FIN.out _).2 hc1
        · go_quiet (fail)
          go_wp2
          go_returns
          refine ⟨rfl, ?_⟩
          rw [HG.out, if_pos (by simpa using HD.out)]
          exact keep_left HP6.out HH4.out HL.out hlt _ rfl
end
end Go.Proofs.Ytiemelhholbngaa

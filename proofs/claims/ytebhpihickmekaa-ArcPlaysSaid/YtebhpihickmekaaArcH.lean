/-
  arc: goes, Victim.
-/
import Derived.Test.YtebhpihickmekaaArcE
namespace Go.Proofs.Ytebhpihickmekaa
open Go.RowKit Go.Maps
set_option linter.unusedVariables false

/-- Is a page that was touched once to go? -/
def T7.fst (t : T7) (c : Int) : Prop := 0 < t.nw.length ∧ (t.goal < t.nw.length ∨ (t.nw.length = t.goal ∧ c = 1))
instance (t : T7) (c : Int) : Decidable (t.fst c) := by unfold T7.fst; infer_instance
def T7.goesC (t : T7) (c : Int) : Option Nat := if t.fst c then (t.nw.find? t.ev).or (t.mn.find? t.ev) else (t.mn.find? t.ev).or (t.nw.find? t.ev)
def T7.goes (t : T7) (id : Nat) : Option Nat := t.goesC (sideN t.b1 t.b2 id)
def T7.put (t : T7) (f : Nat) : List Nat × List Nat := (if f ∈ t.nw then t.b1 ++ [t.page f] else t.b1, if f ∈ t.nw then t.b2 else t.b2 ++ [t.page f])
def T7.keep (n : Nat) (t : T7) (f : Nat) : T7 := ⟨t.nw, t.mn, t.page, t.ev, (bnd n (t.put f).1 (t.put f).2).1, (bnd n (t.put f).1 (t.put f).2).2, t.goal⟩
def T7.gone (n : Nat) (t : T7) (id f : Nat) : T7 := (if 0 ≤ sideN t.b1 t.b2 id ∨ t.nw.length < n then t.keep n f else t).rem f
/-- Pages are numbers; no page is in two frames; none that is in a frame is remembered. -/
structure TI7 (t : T7) : Prop where
  u : ∀ f, f ∈ t.nw ∨ f ∈ t.mn → isU32 (t.page f) ∧ ¬ t.page f ∈ t.b1 ++ t.b2
  ij : ∀ f g, (f ∈ t.nw ∨ f ∈ t.mn) → (g ∈ t.nw ∨ g ∈ t.mn) → t.page f = t.page g → f = g

section
variable {w w' : World} {b n : Nat} {A : TA} {t : T7} {k1 k2 sp : List Nat} {gp : Nat → Nat}
theorem ar_eldest_at (h : AC w b n A t k1 k2 sp gp) (d : Nat) : (Calls Try.prog 54 #[.pointer (some ⟨b, 0, none⟩), .int .i64 0] (w.drewN d) fun e w' => e = .returned (.int .i64 (ixI (t.nw.find? t.ev))) ∧ ∃ d, w.drewN d = w') ∧
    Calls Try.prog 54 #[.pointer (some ⟨b, 0, none⟩), .int .i64 1] (w.drewN d) fun e w' => e = .returned (.int .i64 (ixI (t.mn.find? t.ev))) ∧ ∃ d, w.drewN d = w' := by
  have h1 := h.fr0 ((Fr.refl NoF w).drewN d)
  refine ⟨(ar_eldest h1 0 (l := t.nw) rfl).mono fun e w' ⟨he, d', hw⟩ => ⟨he, d + d', ?_⟩, (ar_eldest h1 1 (l := t.mn) rfl).mono fun e w' ⟨he, d', hw⟩ => ⟨he, d + d', ?_⟩⟩
  · rw [← hw, World.drewN_drewN]
  · rw [← hw, World.drewN_drewN]

set_option maxHeartbeats 2000000 in
theorem ar_goes (h : AC w b n A t k1 k2 sp gp) (c : Int) : Calls Try.prog 35 #[.pointer (some ⟨b, 0, none⟩), .int .i64 c] w fun e w' => e = .returned (.int .i64 (ixI (t.goesC c))) ∧ ∃ d, w.drewN d = w' := by
  have c0 : w.cell? ⟨b, 0, none⟩ = some (.int .i64 (t.goal : Nat)) := h.c 0 (by omega)
  have c1 : w.cell? ⟨b, 1, none⟩ = some (.pointer (some ⟨A.rb, 0, none⟩)) := h.c 1 (by omega)
  have HL : Hid (Calls Try.prog 36 #[.pointer (some ⟨A.rb, 0, none⟩), .int .i64 0] w fun e w' => e = .returned (.int .i64 (t.nw.length : Nat)) ∧ w = w') := Len_all h.rr 0
  have HE0 := Lib.hid (fun d => (ar_eldest_at h d).1)
  have HE1 := Lib.hid (fun d => (ar_eldest_at h d).2)
  have hln := h.lists.2.2.2.2
  rw [List.length_append] at hln
  have hn := h.hn
  have hi := h.hi
  have HG : Hid (t.goesC c = if (0 < t.nw.length ∧ (t.goal < t.nw.length ∨ (t.nw.length = t.goal ∧ c = 1))) then (t.nw.find? t.ev).or (t.mn.find? t.ev) else (t.mn.find? t.ev).or (t.nw.find? t.ev)) := by
    unfold Hid T7.goesC
    by_cases q : t.fst c
    · rw [if_pos q]; exact (if_pos q).symm
    · rw [if_neg q]; exact (if_neg q).symm
  clear h
  rw [HG.out]
  clear HG
  generalize t.nw.length = L at *
  generalize t.goal = g at *
  generalize t.nw.find? t.ev = X at *
  generalize t.mn.find? t.ev = Y at *
  by_cases hL : 0 < L
  · have hL' : 0 < (L : Int) := by omega
    by_cases hgL : g < L
    · rw [if_pos ⟨hL, .inl hgL⟩]
      have hgL' : (g : Int) < L := by omega
      clear hL hgL
      cases X with
      | none =>
        rw [show ixI (none : Option Nat) = -1 from rfl] at HE0
        rw [show Option.or none Y = Y from rfl]
        go_enter Try.func35, Try.ntmps35
        go_wp2_with (go_at_call 36; refine HL.out.mono ?_; rintro e w' ⟨rfl, rfl⟩)
        refine (HE0.out 0).mono ?_
        rintro e w1 ⟨rfl, d1, rfl⟩
        go_wp2_with fail
        refine (HE1.out _).mono ?_
        rintro e w2 ⟨rfl, d2, rfl⟩
        go_wp2
        go_returns
        exact ⟨rfl, _, rfl⟩
      | some x =>
        rw [show ixI (some x) = (x : Int) from rfl] at HE0
        rw [show ixI (Option.or (some x) Y) = (x : Int) from rfl]
        go_enter Try.func35, Try.ntmps35
        go_wp2_with (go_at_call 36; refine HL.out.mono ?_; rintro e w' ⟨rfl, rfl⟩)
        refine (HE0.out 0).mono ?_
        rintro e w1 ⟨rfl, d1, rfl⟩
        go_wp2
        go_returns
        exact ⟨rfl, _, rfl⟩
    · by_cases he : L = g
      · have hgL' : (L : Int) ≤ g := by omega
        have he' : ((L : Int) == (g : Int)) = true := by simp; omega
        by_cases hc : c = 1
        · rw [if_pos ⟨hL, .inr ⟨he, hc⟩⟩]
          subst hc
          clear hL hgL he
          cases X with
          | none =>
            rw [show ixI (none : Option Nat) = -1 from rfl] at HE0
            rw [show Option.or none Y = Y from rfl]
            go_enter Try.func35, Try.ntmps35
            go_wp2_with (go_at_call 36; refine HL.out.mono ?_; rintro e w' ⟨rfl, rfl⟩)
            refine (HE0.out 0).mono ?_
            rintro e w1 ⟨rfl, d1, rfl⟩
            go_wp2_with fail
            refine (HE1.out _).mono ?_
            rintro e w2 ⟨rfl, d2, rfl⟩
            go_wp2
            go_returns
            exact ⟨rfl, _, rfl⟩
          | some x =>
            rw [show ixI (some x) = (x : Int) from rfl] at HE0
            rw [show ixI (Option.or (some x) Y) = (x : Int) from rfl]
            go_enter Try.func35, Try.ntmps35
            go_wp2_with (go_at_call 36; refine HL.out.mono ?_; rintro e w' ⟨rfl, rfl⟩)
            refine (HE0.out 0).mono ?_
            rintro e w1 ⟨rfl, d1, rfl⟩
            go_wp2
            go_returns
            exact ⟨rfl, _, rfl⟩
        · rw [if_neg (fun q => q.2.elim (fun q => hgL q) (fun q => hc q.2))]
          have hc' : (c == 1) = false := by simpa using hc
          clear hL hgL he
          cases Y with
          | none =>
            rw [show ixI (none : Option Nat) = -1 from rfl] at HE1
            rw [show Option.or none X = X from rfl]
            go_enter Try.func35, Try.ntmps35
            go_wp2_with (go_at_call 36; refine HL.out.mono ?_; rintro e w' ⟨rfl, rfl⟩)
            refine (HE1.out 0).mono ?_
            rintro e w1 ⟨rfl, d1, rfl⟩
            go_wp2_with fail
            refine (HE0.out _).mono ?_
            rintro e w2 ⟨rfl, d2, rfl⟩
            go_wp2
            go_returns
            exact ⟨rfl, _, rfl⟩
          | some x =>
            rw [show ixI (some x) = (x : Int) from rfl] at HE1
            rw [show ixI (Option.or (some x) X) = (x : Int) from rfl]
            go_enter Try.func35, Try.ntmps35
            go_wp2_with (go_at_call 36; refine HL.out.mono ?_; rintro e w' ⟨rfl, rfl⟩)
            refine (HE1.out 0).mono ?_
            rintro e w1 ⟨rfl, d1, rfl⟩
            go_wp2
            go_returns
            exact ⟨rfl, _, rfl⟩
      · rw [if_neg (fun q => q.2.elim (fun q => hgL q) (fun q => he q.1))]
        have hgL' : (L : Int) ≤ g := by omega
        have he' : ((L : Int) == (g : Int)) = false := by simp; omega
        clear hL hgL he
        cases Y with
        | none =>
          rw [show ixI (none : Option Nat) = -1 from rfl] at HE1
          rw [show Option.or none X = X from rfl]
          go_enter Try.func35, Try.ntmps35
          go_wp2_with (go_at_call 36; refine HL.out.mono ?_; rintro e w' ⟨rfl, rfl⟩)
          refine (HE1.out 0).mono ?_
          rintro e w1 ⟨rfl, d1, rfl⟩
          go_wp2_with fail
          refine (HE0.out _).mono ?_
          rintro e w2 ⟨rfl, d2, rfl⟩
          go_wp2
          go_returns
          exact ⟨rfl, _, rfl⟩
        | some x =>
          rw [show ixI (some x) = (x : Int) from rfl] at HE1
          rw [show ixI (Option.or (some x) X) = (x : Int) from rfl]
          go_enter Try.func35, Try.ntmps35
          go_wp2_with (go_at_call 36; refine HL.out.mono ?_; rintro e w' ⟨rfl, rfl⟩)
          refine (HE1.out 0).mono ?_
          rintro e w1 ⟨rfl, d1, rfl⟩
          go_wp2
          go_returns
          exact ⟨rfl, _, rfl⟩
  · rw [if_neg (fun q => hL q.1)]
    have hL' : (L : Int) ≤ 0 := by omega
    clear hL
    cases Y with
    | none =>
      rw [show ixI (none : Option Nat) = -1 from rfl] at HE1
      rw [show Option.or none X = X from rfl]
      go_enter Try.func35, Try.ntmps35
      go_wp2_with (go_at_call 36; refine HL.out.mono ?_; rintro e w' ⟨rfl, rfl⟩)
      refine (HE1.out 0).mono ?_
      rintro e w1 ⟨rfl, d1, rfl⟩
      go_wp2_with fail
      refine (HE0.out _).mono ?_
      rintro e w2 ⟨rfl, d2, rfl⟩
      go_wp2
      go_returns
      exact ⟨rfl, _, rfl⟩
    | some x =>
      rw [show ixI (some x) = (x : Int) from rfl] at HE1
      rw [show ixI (Option.or (some x) X) = (x : Int) from rfl]
      go_enter Try.func35, Try.ntmps35
      go_wp2_with (go_at_call 36; refine HL.out.mono ?_; rintro e w' ⟨rfl, rfl⟩)
      refine (HE1.out 0).mono ?_
      rintro e w1 ⟨rfl, d1, rfl⟩
      go_wp2
      go_returns
      exact ⟨rfl, _, rfl⟩

theorem goesC_none {t : T7} {c : Int} : t.goesC c = none ↔ cntL (t.nw ++ t.mn) t.ev = 0 := by
  have h1 : t.goesC c = none ↔ (∀ x ∈ t.nw, ¬ t.ev x = true) ∧ ∀ x ∈ t.mn, ¬ t.ev x = true := by
    unfold T7.goesC
    split <;> rw [Option.or_eq_none_iff, List.find?_eq_none, List.find?_eq_none]
    exact ⟨fun q => ⟨q.2, q.1⟩, fun q => ⟨q.2, q.1⟩⟩
  rw [h1]
  unfold cntL
  rw [List.length_eq_zero_iff, List.filter_eq_nil_iff]
  constructor
  · rintro ⟨q1, q2⟩ x hx
    exact (List.mem_append.1 hx).elim (q1 x) (q2 x)
  · intro q
    exact ⟨fun x hx => q x (List.mem_append.2 (.inl hx)), fun x hx => q x (List.mem_append.2 (.inr hx))⟩
theorem goesC_mem {t : T7} {c : Int} {f : Nat} (h : t.goesC c = some f) : f ∈ t.nw ∨ f ∈ t.mn := by
  unfold T7.goesC at h
  split at h
  · rcases Option.or_eq_some_iff.1 h with q | ⟨_, q⟩
    · exact .inl (List.mem_of_find?_eq_some q)
    · exact .inr (List.mem_of_find?_eq_some q)
  · rcases Option.or_eq_some_iff.1 h with q | ⟨_, q⟩
    · exact .inr (List.mem_of_find?_eq_some q)
    · exact .inl (List.mem_of_find?_eq_some q)

theorem ar_victim_no (h : AC w b n A t k1 k2 sp gp) (p : Int) {id : Nat} (hv : t.goes id = none) : Calls Try.prog 18 #[.pointer (some ⟨b, 0, none⟩), .int .u32 p] w fun e w' => e = .returned (.tuple #[.int .i64 0, .bool false]) ∧ w = w' := by
  have HZ := ar_size h
  rw [goesC_none.1 hv] at HZ
  have H := Lib.hid HZ
  clear HZ hv h
  go_enter Try.func18, Try.ntmps18
  go_wp2_with (go_at_call 20; refine H.out.mono ?_; rintro e w' ⟨rfl, rfl⟩)
  go_returns
  exact ⟨rfl, rfl⟩
end
end Go.Proofs.Ytebhpihickmekaa

/-
  Package hatcheckref06's P, the document's 2Q, in memory: its calls.
-/
import Derived.Test.YtiemelhholbngaaSeenG
import Derived.Test.YtiemelhholbngaaRun
import Derived.Test.YtiemelhholbngaaCut
import Derived.Deep.QuietTactic
import Derived.BigQuiet
import Derived.RegionTactic
import Derived.ChangeAlike
import Derived.Deep.RegionHeld3
import Derived.Deep.RegionWith
namespace Go.Proofs.Ytiemelhholbngaa
open Go.RowKit
set_option linter.unusedVariables false

structure S6 where
  page : List Nat
  on : Nat → Bool
  nw : List Nat
  mn : List Nat
  old : List Nat
def backN (l : List Nat) (f : Nat) : List Nat := awayN l f ++ [f]
def rows6 (s : S6) : RowsF := fun i => if i = 5 then some (.i64, s.nw) else if i = 6 then some (.i64, s.mn) else if i = 7 then some (.u32, s.old) else none
def S6.remove (s : S6) (a : Nat) : S6 := ⟨s.page.set a 0, upd s.on a false, awayN s.nw a, awayN s.mn a, s.old⟩
def S6.access (s : S6) (a id : Nat) : S6 := if a ∈ s.nw then ⟨s.page.set a id, s.on, s.nw, s.mn, s.old⟩ else if a ∈ s.mn ∨ id ∈ s.old then ⟨s.page.set a id, s.on, s.nw, backN s.mn a, awayN s.old id⟩ else ⟨s.page.set a id, s.on, s.nw ++ [a], s.mn, s.old⟩
def S6.vic (inn : Nat) (s : S6) : Option Nat := if (inn < s.nw.length ∧ (s.nw.find? s.on).isSome) ∨ (s.mn.find? s.on) = none then s.nw.find? s.on else s.mn.find? s.on
def S6.gone (out : Nat) (s : S6) (f : Nat) : S6 := if f ∈ s.nw then ⟨s.page.set f 0, upd s.on f false, awayN s.nw f, awayN s.mn f, cutOld out (s.old ++ [s.page.getD f 0])⟩ else s.remove f
def pol6 (inn out : Nat) : Pol S6 where
  miss s _ := s
  access s a id := s.access a id
  set s a v := ⟨s.page, upd s.on a v, s.nw, s.mn, s.old⟩
  victim s _ := s.vic inn
  gone s _ := match s.vic inn with | none => s | some f => s.gone out f
  remove s a := s.remove a
  size s := cntF s.page s.on s.page.length
  ghosts s := s.old
theorem rows6_5 (s : S6) (l : List Nat) (page : List Nat) (on : Nat → Bool) : upd (rows6 s) 5 (some (.i64, l)) = rows6 ⟨page, on, l, s.mn, s.old⟩ := by
  funext i
  by_cases e : i = 5
  · subst e; rw [upd_same]; simp [rows6]
  · rw [upd_other _ _ e]; simp [rows6, e]
theorem rows6_6 (s : S6) (l : List Nat) (page : List Nat) (on : Nat → Bool) : upd (rows6 s) 6 (some (.i64, l)) = rows6 ⟨page, on, s.nw, l, s.old⟩ := by
  funext i
  by_cases e : i = 6
  · subst e; rw [upd_same]; simp [rows6]
  · rw [upd_other _ _ e]; simp [rows6, e]
theorem rows6_7 (s : S6) (l : List Nat) (page : List Nat) (on : Nat → Bool) : upd (rows6 s) 7 (some (.u32, l)) = rows6 ⟨page, on, s.nw, s.mn, l⟩ := by
  funext i
  by_cases e : i = 7
  · subst e; rw [upd_same]; simp [rows6]
  · rw [upd_other _ _ e]; simp [rows6, e]
theorem nodup_back {l : List Nat} (h : l.Nodup) (a : Nat) : (backN l a).Nodup := by
  unfold backN awayN
  rw [List.nodup_append]
  refine ⟨h.filter _, by simp, fun x hx y hy e => ?_⟩
  rw [List.mem_singleton.1 hy] at e
  subst e
  simp at hx
theorem len_lt {l : List Nat} {n : Nat} (h : l.Nodup) (hl : ∀ x ∈ l, x < n) : l.length ≤ n := by
  have := List.Nodup.length_le_of_subset (l₁ := l) (l₂ := List.range n) h (fun y hy => List.mem_range.2 (hl y hy))
  simpa using this
theorem mem_awayN {l : List Nat} {f x : Nat} : x ∈ awayN l f ↔ x ∈ l ∧ ¬ x = f := by simp [awayN]
theorem mem_backN {l : List Nat} {f x : Nat} : x ∈ backN l f ↔ x ∈ l ∨ x = f := by
  simp only [backN, List.mem_append, mem_awayN, List.mem_singleton]
  by_cases e : x = f <;> simp [e]
theorem awayN_lt {l : List Nat} {x : Nat} : (awayN l x).length < l.length ↔ x ∈ l := by
  constructor
  · intro h
    apply Classical.byContradiction
    intro hm
    have : awayN l x = l := by
      unfold awayN
      rw [List.filter_eq_self]
      intro a ha
      have : ¬ a = x := fun e => hm (e ▸ ha)
      simp [this]
    rw [this] at h
    omega
  · intro hm
    induction l with
    | nil => cases hm
    | cons a l ih =>
      by_cases e : a = x
      · subst e
        have := awayN_le a l
        have e2 : awayN (a :: l) a = awayN l a := by simp [awayN]
        rw [e2]; simp; omega
      · have e2 : awayN (a :: l) x = a :: awayN l x := by simp [awayN, e]
        rw [e2]
        have := ih ((List.mem_cons.1 hm).resolve_left (fun q => e q.symm))
        simp; omega

set_option maxHeartbeats 1000000 in
theorem has_calls {w : World} {v : Value} {l : List Nat} (h : SlK .i64 w v l) (hl : l.length < 1000000) (x : Nat) :
    Calls Try.prog 38 #[v, .int .i64 x] w fun e w' => e = .returned (.bool (decide (x ∈ l))) ∧ Fr NoF w w' := by
  obtain ⟨a, c, rfl, q1, q2⟩ := h.shape
  unfold maxLen at q2
  have HW := Lib.hid (Without_calls h hl x)
  have hle := awayN_le x l
  have HD : Hid (decide ((awayN l x).length < l.length) = decide (x ∈ l)) := by unfold Hid; rw [decide_eq_decide]; exact awayN_lt
  clear h
  cases hd : decide (x ∈ l) with
  | true =>
    have hd2 := HD.out.trans hd
    clear hd HD
    go_enter Try.func38, Try.ntmps38
    go_wp2_with fail
    refine HW.out.mono ?_
    clear HW
    rintro e w1 ⟨v1, rfl, ho, hf⟩
    obtain ⟨a1, c1, rfl, _, _⟩ := ho.sl.shape
    have HF := Lib.hid hf
    clear ho hf
    go_wp2
    go_returns
    exact ⟨rfl, HF.out⟩
  | false =>
    have hd2 := HD.out.trans hd
    clear hd HD
    go_enter Try.func38, Try.ntmps38
    go_wp2_with fail
    refine HW.out.mono ?_
    clear HW
    rintro e w1 ⟨v1, rfl, ho, hf⟩
    obtain ⟨a1, c1, rfl, _, _⟩ := ho.sl.shape
    have HF := Lib.hid hf
    clear ho hf
    go_wp2
    go_returns
    exact ⟨rfl, HF.out⟩

structure H6 (n inn out : Nat) (s : S6) (gb ob : Nat) (hc : Nat → Value) : Prop where
  c0 : hc 0 = .int .i64 n
  c1 : hc 1 = .int .i64 inn
  c2 : hc 2 = .int .i64 out
  c3 : hc 3 = .slice (some ⟨gb, 0, none⟩) n n
  c4 : hc 4 = .slice (some ⟨ob, 0, none⟩) n n
  nn : s.nw.Nodup
  mm : s.mn.Nodup
  nl : ∀ x ∈ s.nw, x < n
  ml : ∀ x ∈ s.mn, x < n
  ol : s.old.length ≤ out
  li : inn < 1000
  lo : out < 1000
theorem H6.upd {n inn out : Nat} {s s' : S6} {gb ob : Nat} {hc : Nat → Value} (h : H6 n inn out s gb ob hc) (i : Nat) (hi : 5 ≤ i) (v : Value) (nn : s'.nw.Nodup) (mm : s'.mn.Nodup) (nl : ∀ x ∈ s'.nw, x < n) (ml : ∀ x ∈ s'.mn, x < n) (ol : s'.old.length ≤ out) : H6 n inn out s' gb ob (upd hc i v) :=
  ⟨by rw [upd_other _ _ (by omega)]; exact h.c0, by rw [upd_other _ _ (by omega)]; exact h.c1, by rw [upd_other _ _ (by omega)]; exact h.c2, by rw [upd_other _ _ (by omega)]; exact h.c3, by rw [upd_other _ _ (by omega)]; exact h.c4, nn, mm, nl, ml, ol, h.li, h.lo⟩
/-- What a call leaves. -/
def Res6 (w : World) (pb gb ob n inn out : Nat) (hc : Nat → Value) (s s' : S6) (w' : World) : Prop :=
  ∃ hc', PS w (DP pb gb ob hc (rows6 s)) pb 8 gb ob n w' hc' (rows6 s') s'.page s'.on ∧ H6 n inn out s' gb ob hc'

section
variable {w w' : World} {pb gb ob n inn out : Nat} {hc : Nat → Value} {s : S6}
theorem s6_miss (a : Option Addr) (p : Int) : Calls Try.prog 20 #[.pointer a, .int .u32 p] w fun e w' => e = .returned (.tuple #[]) ∧ w = w' := by
  go_enter Try.func20, Try.ntmps20
  go_wp2
  go_returns
  exact ⟨rfl, rfl⟩
theorem s6_ghosts (h : PG w pb 8 gb ob n hc (rows6 s) s.page s.on) : Calls Try.prog 36 #[.pointer (some ⟨pb, 0, none⟩)] w fun e w' => e = .returned (hc 7) ∧ w = w' := by
  obtain ⟨a, c, e7, _, _, _, _⟩ := h.row (i := 7) (k := .u32) (l := s.old) rfl
  have c7 := h.c 7 (by omega) e7
  rw [e7]
  clear h e7
  go_enter Try.func36, Try.ntmps36
  go_wp2
  go_returns
  exact ⟨rfl, rfl⟩
theorem s6_set (h : PG w pb 8 gb ob n hc (rows6 s) s.page s.on) (hh : H6 n inn out s gb ob hc) {a : Nat} (ha : a < n) (x : Bool) : Calls Try.prog 24 #[.pointer (some ⟨pb, 0, none⟩), .int .i64 a, .bool x] w fun e w' => e = .returned (.tuple #[]) ∧ Res6 w pb gb ob n inn out hc s ⟨s.page, upd s.on a x, s.nw, s.mn, s.old⟩ w' := by
  have c4 := h.c 4 (by omega) hh.c4
  have co := h.co ha
  have fo := h.on.frozen a
  have hn := h.hn
  have R : Hid (Res6 w pb gb ob n inn out hc s ⟨s.page, upd s.on a x, s.nw, s.mn, s.old⟩ (w.setCell ⟨ob, a, none⟩ (.bool x))) := ⟨hc, (PS.start h).setOn a x, hh.c0, hh.c1, hh.c2, hh.c3, hh.c4, hh.nn, hh.mm, hh.nl, hh.ml, hh.ol, hh.li, hh.lo⟩
  clear h hh
  go_enter Try.func24, Try.ntmps24
  go_wp2
  go_returns
  exact ⟨rfl, R.out⟩
end
end Go.Proofs.Ytiemelhholbngaa

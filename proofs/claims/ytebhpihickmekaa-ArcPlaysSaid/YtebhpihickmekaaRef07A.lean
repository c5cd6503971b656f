/-
  Package hatcheckref07's P, the document's ARC, in memory: has, in, ghosts, set.
-/
import Derived.Test.YtebhpihickmekaaSeenG
import Derived.Test.YtebhpihickmekaaRun
import Derived.Test.YtebhpihickmekaaArcB
import Derived.Deep.QuietTactic
import Derived.BigQuiet
import Derived.RegionTactic
import Derived.ChangeAlike
import Derived.Deep.RegionHeld3
import Derived.Deep.RegionWith
import Derived.Deep.RegionLaw
namespace Go.Proofs.Ytebhpihickmekaa
open Go.RowKit
set_option linter.unusedVariables false

structure S7 where
  page : List Nat
  on : Nat → Bool
  t1 : List Nat
  t2 : List Nat
  b1 : List Nat
  b2 : List Nat
  goal : Nat
def backN (l : List Nat) (f : Nat) : List Nat := awayN l f ++ [f]
def rows7 (s : S7) : RowsF := fun i => if i = 3 then some (.i64, s.t1) else if i = 4 then some (.i64, s.t2) else if i = 5 then some (.u32, s.b1) else if i = 6 then some (.u32, s.b2) else none
def stq (a b : Nat) : Nat := max 1 (b / a)
def S7.miss (n : Nat) (s : S7) (id : Nat) : S7 :=
  if id ∈ s.b1 then ⟨s.page, s.on, s.t1, s.t2, s.b1, s.b2, min (s.goal + stq s.b1.length s.b2.length) n⟩
  else if id ∈ s.b2 then ⟨s.page, s.on, s.t1, s.t2, s.b1, s.b2, s.goal - stq s.b2.length s.b1.length⟩
  else if n ≤ s.t1.length + s.b1.length then ⟨s.page, s.on, s.t1, s.t2, s.b1.drop 1, s.b2, s.goal⟩
  else if 2 * n ≤ s.t1.length + s.t2.length + s.b1.length + s.b2.length then ⟨s.page, s.on, s.t1, s.t2, s.b1, s.b2.drop 1, s.goal⟩ else s
def S7.access (s : S7) (a id : Nat) : S7 := if a ∈ s.t1 ∨ a ∈ s.t2 ∨ id ∈ s.b1 ∨ id ∈ s.b2 then ⟨s.page.set a id, s.on, awayN s.t1 a, backN s.t2 a, awayN s.b1 id, awayN s.b2 id, s.goal⟩ else ⟨s.page.set a id, s.on, s.t1 ++ [a], s.t2, awayN s.b1 id, awayN s.b2 id, s.goal⟩
def S7.remove (s : S7) (a : Nat) : S7 := ⟨s.page.set a 0, upd s.on a false, awayN s.t1 a, awayN s.t2 a, s.b1, s.b2, s.goal⟩
def S7.fst (s : S7) (id : Nat) : Bool := decide (0 < s.t1.length) && (decide (s.goal < s.t1.length) || (decide (s.t1.length = s.goal) && decide (id ∈ s.b2)))
def S7.vic (s : S7) (id : Nat) : Option Nat := if (s.fst id = true ∧ (s.t1.find? s.on).isSome) ∨ s.t2.find? s.on = none then s.t1.find? s.on else s.t2.find? s.on
def S7.plain (n : Nat) (s : S7) (id f : Nat) : Bool := decide (f ∈ s.t1) && (decide (s.t1.length = n) && (!decide (id ∈ s.b1) && !decide (id ∈ s.b2)))
def S7.put (n : Nat) (s : S7) (id f : Nat) : List Nat × List Nat := (if s.plain n id f = true then s.b1 else if f ∈ s.t1 then s.b1 ++ [s.page.getD f 0] else s.b1, if s.plain n id f = true then s.b2 else if f ∈ s.t1 then s.b2 else s.b2 ++ [s.page.getD f 0])
def S7.gone (n : Nat) (s : S7) (id f : Nat) : S7 := ⟨s.page.set f 0, upd s.on f false, awayN s.t1 f, awayN s.t2 f, (bnd n (s.put n id f).1 (s.put n id f).2).1, (bnd n (s.put n id f).1 (s.put n id f).2).2, s.goal⟩
def pol7 (n : Nat) : Pol S7 where
  miss s id := s.miss n id
  access s a id := s.access a id
  set s a v := ⟨s.page, upd s.on a v, s.t1, s.t2, s.b1, s.b2, s.goal⟩
  victim s id := s.vic id
  gone s id := match s.vic id with | none => s | some f => s.gone n id f
  remove s a := s.remove a
  size s := cntF s.page s.on s.page.length
  ghosts s := s.b1 ++ s.b2
theorem rows7_3 (s : S7) (l : List Nat) (page : List Nat) (on : Nat → Bool) (g : Nat) : upd (rows7 s) 3 (some (.i64, l)) = rows7 ⟨page, on, l, s.t2, s.b1, s.b2, g⟩ := by
  funext i
  by_cases e : i = 3
  · subst e; rw [upd_same]; simp [rows7]
  · rw [upd_other _ _ e]; simp [rows7, e]
theorem rows7_4 (s : S7) (l : List Nat) (page : List Nat) (on : Nat → Bool) (g : Nat) : upd (rows7 s) 4 (some (.i64, l)) = rows7 ⟨page, on, s.t1, l, s.b1, s.b2, g⟩ := by
  funext i
  by_cases e : i = 4
  · subst e; rw [upd_same]; simp [rows7]
  · rw [upd_other _ _ e]; simp [rows7, e]
theorem rows7_5 (s : S7) (l : List Nat) (page : List Nat) (on : Nat → Bool) (g : Nat) : upd (rows7 s) 5 (some (.u32, l)) = rows7 ⟨page, on, s.t1, s.t2, l, s.b2, g⟩ := by
  funext i
  by_cases e : i = 5
  · subst e; rw [upd_same]; simp [rows7]
  · rw [upd_other _ _ e]; simp [rows7, e]
theorem rows7_6 (s : S7) (l : List Nat) (page : List Nat) (on : Nat → Bool) (g : Nat) : upd (rows7 s) 6 (some (.u32, l)) = rows7 ⟨page, on, s.t1, s.t2, s.b1, l, g⟩ := by
  funext i
  by_cases e : i = 6
  · subst e; rw [upd_same]; simp [rows7]
  · rw [upd_other _ _ e]; simp [rows7, e]
theorem nodup_back {l : List Nat} (h : l.Nodup) (a : Nat) : (backN l a).Nodup := by
  unfold backN awayN
  rw [List.nodup_append]
  refine ⟨h.filter _, by simp, fun x hx y hy e => ?_⟩
  rw [List.mem_singleton.1 hy] at e
  subst e
  simp at hx
theorem len_lt {l : List Nat} {n : Nat} (h : l.Nodup) (hl : ∀ x ∈ l, x < n) : l.length ≤ n := by
  have := List.Nodup.length_le_of_subset (l₁ := l) (l₂ := List.range n) h (fun y hy => List.mem_range.2 (hl y hy))
  simpa using this
theorem mem_awayN {l : List Nat} {f x : Nat} : x ∈ awayN l f ↔ x ∈ l ∧ ¬ x = f := by simp [awayN]
theorem mem_backN {l : List Nat} {f x : Nat} : x ∈ backN l f ↔ x ∈ l ∨ x = f := by
  simp only [backN, List.mem_append, mem_awayN, List.mem_singleton]
  by_cases e : x = f <;> simp [e]
theorem awayN_lt {l : List Nat} {x : Nat} : (awayN l x).length < l.length ↔ x ∈ l := by
  constructor
  · intro h
    apply Classical.byContradiction
    intro hm
    have : awayN l x = l := by
      unfold awayN
      rw [List.filter_eq_self]
      intro a ha
      have : ¬ a = x := fun e => hm (e ▸ ha)
      simp [this]
    rw [this] at h
    omega
  · intro hm
    induction l with
    | nil => cases hm
    | cons a l ih =>
      by_cases e : a = x
      · subst e
        have := awayN_le a l
        have e2 : awayN (a :: l) a = awayN l a := by simp [awayN]
        rw [e2]; simp; omega
      · have e2 : awayN (a :: l) x = a :: awayN l x := by simp [awayN, e]
        rw [e2]
        have := ih ((List.mem_cons.1 hm).resolve_left (fun q => e q.symm))
        simp; omega

set_option maxHeartbeats 1000000 in
theorem has_calls {w : World} {v : Value} {l : List Nat} (h : SlK .i64 w v l) (hl : l.length < 1000000) (x : Nat) :
    Calls Try.prog 45 #[v, .int .i64 x] w fun e w' => e = .returned (.bool (decide (x ∈ l))) ∧ Fr NoF w w' := by
  obtain ⟨a, c, rfl, q1, q2⟩ := h.shape
  unfold maxLen at q2
  have HW := Lib.hid (Without_calls h hl x)
  have hle := awayN_le x l
  have HD : Hid (decide ((awayN l x).length < l.length) = decide (x ∈ l)) := by unfold Hid; rw [decide_eq_decide]; exact awayN_lt
  clear h
  cases hd : decide (x ∈ l) with
  | true =>
    have hd2 := HD.out.trans hd
    clear hd HD
    go_enter Try.func45, Try.ntmps45
    go_wp2_with fail
    refine HW.out.mono ?_
    clear HW
    rintro e w1 ⟨v1, rfl, ho, hf⟩
    obtain ⟨a1, c1, rfl, _, _⟩ := ho.sl.shape
    have HF := Lib.hid hf
    clear ho hf
    go_wp2
    go_returns
    exact ⟨rfl, HF.out⟩
  | false =>
    have hd2 := HD.out.trans hd
    clear hd HD
    go_enter Try.func45, Try.ntmps45
    go_wp2_with fail
    refine HW.out.mono ?_
    clear HW
    rintro e w1 ⟨v1, rfl, ho, hf⟩
    obtain ⟨a1, c1, rfl, _, _⟩ := ho.sl.shape
    have HF := Lib.hid hf
    clear ho hf
    go_wp2
    go_returns
    exact ⟨rfl, HF.out⟩


set_option maxHeartbeats 1000000 in
theorem in_calls {w : World} {v : Value} {l : List Nat} (h : SlK .u32 w v l) (hl : l.length < 1000000) (x : Nat) :
    Calls Try.prog 42 #[v, .int .u32 x] w fun e w' => e = .returned (.bool (decide (x ∈ l))) ∧ Fr NoF w w' := by
  obtain ⟨a, c, rfl, q1, q2⟩ := h.shape
  have HW := Lib.hid (WithoutPage_calls h hl x)
  clear h
  generalize decide (x ∈ l) = bv at *
  go_enter Try.func42, Try.ntmps42
  go_wp2_with fail
  refine HW.out.mono ?_
  clear HW
  rintro e w1 ⟨v1, rfl, ho, hf⟩
  obtain ⟨a1, c1, rfl, _, _⟩ := ho.sl.shape
  have HF := Lib.hid hf
  clear ho hf
  go_wp2
  go_returns
  exact ⟨rfl, HF.out⟩

structure H7 (n : Nat) (s : S7) (gb ob : Nat) (hc : Nat → Value) : Prop where
  c0 : hc 0 = .int .i64 n
  c1 : hc 1 = .slice (some ⟨gb, 0, none⟩) n n
  c2 : hc 2 = .slice (some ⟨ob, 0, none⟩) n n
  c7 : hc 7 = .int .i64 (s.goal : Nat)
  n1 : s.t1.Nodup
  n2 : s.t2.Nodup
  l1 : ∀ x ∈ s.t1, x < n
  l2 : ∀ x ∈ s.t2, x < n
  bl : s.b1.length + s.b2.length ≤ n
  gl : s.goal ≤ n
theorem H7.upd {n : Nat} {s s' : S7} {gb ob : Nat} {hc : Nat → Value} (h : H7 n s gb ob hc) (i : Nat) (hi : 3 ≤ i ∧ i ≤ 6) (v : Value) (hg : s'.goal = s.goal) (n1 : s'.t1.Nodup) (n2 : s'.t2.Nodup) (l1 : ∀ x ∈ s'.t1, x < n) (l2 : ∀ x ∈ s'.t2, x < n) (bl : s'.b1.length + s'.b2.length ≤ n) : H7 n s' gb ob (upd hc i v) :=
  ⟨by rw [upd_other _ _ (by omega)]; exact h.c0, by rw [upd_other _ _ (by omega)]; exact h.c1, by rw [upd_other _ _ (by omega)]; exact h.c2, by rw [upd_other _ _ (by omega), hg]; exact h.c7, n1, n2, l1, l2, bl, by rw [hg]; exact h.gl⟩
/-- What a call leaves. -/
def Res7 (w : World) (pb gb ob n : Nat) (hc : Nat → Value) (s s' : S7) (w' : World) : Prop :=
  ∃ hc', PS w (DP pb gb ob hc (rows7 s)) pb 8 gb ob n w' hc' (rows7 s') s'.page s'.on ∧ H7 n s' gb ob hc'

section
variable {w w' : World} {pb gb ob n : Nat} {hc : Nat → Value} {s : S7}
theorem s7_set (h : PG w pb 8 gb ob n hc (rows7 s) s.page s.on) (hh : H7 n s gb ob hc) {a : Nat} (ha : a < n) (x : Bool) : Calls Try.prog 25 #[.pointer (some ⟨pb, 0, none⟩), .int .i64 a, .bool x] w fun e w' => e = .returned (.tuple #[]) ∧ Res7 w pb gb ob n hc s ⟨s.page, upd s.on a x, s.t1, s.t2, s.b1, s.b2, s.goal⟩ w' := by
  have c2 := h.c 2 (by omega) hh.c2
  have co := h.co ha
  have fo := h.on.frozen a
  have hn := h.hn
  have R : Hid (Res7 w pb gb ob n hc s ⟨s.page, upd s.on a x, s.t1, s.t2, s.b1, s.b2, s.goal⟩ (w.setCell ⟨ob, a, none⟩ (.bool x))) := ⟨hc, (PS.start h).setOn a x, hh.c0, hh.c1, hh.c2, hh.c7, hh.n1, hh.n2, hh.l1, hh.l2, hh.bl, hh.gl⟩
  clear h hh
  go_enter Try.func25, Try.ntmps25
  go_wp2
  go_returns
  exact ⟨rfl, R.out⟩

set_option maxHeartbeats 2000000 in
theorem s7_ghosts (h : PG w pb 8 gb ob n hc (rows7 s) s.page s.on) (hh : H7 n s gb ob hc) : Calls Try.prog 43 #[.pointer (some ⟨pb, 0, none⟩)] w fun e w' => ∃ v, e = .returned v ∧ SlK .u32 w' v (s.b1 ++ s.b2) ∧ (∀ b, v.ownBlock = some b → w.heap.size ≤ b) ∧ Fr NoF w w' := by
  obtain ⟨a5, k5, e5, q1, q2, hs5, _⟩ := h.row (i := 5) (k := .u32) (l := s.b1) rfl
  obtain ⟨a6, k6, e6, q3, q4, hs6, _⟩ := h.row (i := 6) (k := .u32) (l := s.b2) rfl
  have c5 := h.c 5 (by omega) e5
  have c6 := h.c 6 (by omega) e6
  have hn := h.hn
  have hb := hh.bl
  have HP : Hid (∀ w', Fr NoF w w' → w'.cell? ⟨pb, 5, none⟩ = some (.slice a5 s.b1.length k5) ∧ w'.cell? ⟨pb, 6, none⟩ = some (.slice a6 s.b2.length k6)) := fun w' f => ⟨(h.fr0 f).c 5 (by omega) e5, (h.fr0 f).c 6 (by omega) e6⟩
  have H5 := Lib.hid hs5
  have H6 := Lib.hid hs6
  have lpb := h.hd.lt
  clear h hh hs5 hs6 e5 e6
  generalize s.b1 = x1 at *
  generalize s.b2 = x2 at *
  go_enter Try.func43, Try.ntmps43
  go_wp2
  go_region_law (first
    | (refine appSB (base := w.heap.size) EIu rfl (.tmp 3) (.tmp 7) rfl (by rfl) (by rfl) (by simp) (own_keep (own_new (w0 := w) (Nat.le_refl _) #[] 34 1 0 _ rfl rfl (by unfold maxLen; omega)) (by repeat (first | exact Fr.refl NoF _ | apply Fr.drew)) (fun _ _ q => q)) (H5.out.keep (by repeat (first | exact Fr.refl NoF _ | apply Fr.drew | apply Fr.alloc))) (by unfold maxLen; omega) (by omega) ?_; intro v5 w5 hown5 hf5 hob5; rw [Nat.zero_add, List.nil_append] at hown5; obtain ⟨a5', c5', rfl, _, _⟩ := (SlC.ofOwn hown5 (fun u hu => by obtain ⟨z, _, rfl⟩ := List.mem_map.1 hu; rfl)).shape; have HO5 := Lib.hid hown5; have HF5 := Lib.hid (Fr.trans (F := NoF) (a := w) (by repeat (first | exact Fr.refl NoF _ | apply Fr.drew | apply Fr.alloc)) hf5 (fun i q => .inr (by cases q; exact Nat.le_refl _))); obtain ⟨x5, x6⟩ := HP.out w5 HF5.out; have hs5 := HF5.out.size; clear hown5 hf5 hob5)
    | (refine appSB (base := w.heap.size) EIu rfl (.tmp 8) (.tmp 12) rfl (by rfl) (by rfl) (by first | omega | (simp; omega)) (own_keep HO5.out (by repeat (first | exact Fr.refl NoF _ | apply Fr.drew)) (fun _ _ q => q)) (H6.out.keep (by first | exact HF5.out | exact HF5.out.drew)) (by unfold maxLen; omega) (by omega) ?_; intro v6 w6 hown6 hf6 hob6; have HO6 := Lib.hid hown6; have HF6 := Lib.hid (Fr.trans (F := NoF) (a := w) (by first | exact HF5.out | exact HF5.out.drew) hf6 (fun i q => .inr (ownBlock_own HO5.out i q))); clear hown6 hf6 hob6))
  all_goals
    obtain ⟨va5, vc5, e5, _, _⟩ := (SlC.ofOwn HO6.out (fun u hu => by rcases List.mem_append.1 hu with q | q <;> (obtain ⟨z, _, rfl⟩ := List.mem_map.1 q; rfl))).shape
    subst e5
    have HS5 : Hid (SlK .u32 w6 (.slice va5 (x1.length + x2.length) vc5) (x1 ++ x2)) := by
      have := SlC.ofOwn HO6.out (fun u hu => by rcases List.mem_append.1 hu with q | q <;> (obtain ⟨z, _, rfl⟩ := List.mem_map.1 q; rfl))
      unfold Hid SlK
      rw [List.length_append, List.map_append]
      exact this
    have HOB := Lib.hid (fun i hi => ownBlock_own HO6.out i hi)
    clear HO6
    go_wp2
    go_returns
    exact ⟨_, rfl, HS5.out, HOB.out, HF6.out⟩
end
end Go.Proofs.Ytebhpihickmekaa

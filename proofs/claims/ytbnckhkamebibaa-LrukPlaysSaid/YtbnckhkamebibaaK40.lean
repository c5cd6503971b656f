/-
  Package hatcheckref05's P, the document's LRU-K, in memory: what a write changes; of, miss, ghosts, set.
  Package hatcheckref05's P: forget.
  Package hatcheckref05's P: best.
  Package hatcheckref05's P: remove; victim.
-/
import Derived.Test.YtbnckhkamebibaaK35
import Derived.Test.YtbnckhkamebibaaK05
import Derived.Test.YtbnckhkamebibaaK39
import Derived.Deep.QuietTactic
import Derived.BigQuiet
import Derived.RegionTactic
import Derived.ChangeAlike
import Derived.Deep.RegionHeld3
import Derived.Deep.RegionWith
import Derived.Deep.RegionLaw
import Derived.Handy
namespace Go.Proofs.Ytbnckhkamebibaa
open Go.RowKit
set_option linter.unusedVariables false

def cell5 (x : Pa × Value) : List Value := [.int .u32 (x.1.p : Nat), .int .i64 (x.1.l : Nat), x.2]
def cells5 (pv : List (Pa × Value)) : List Value := pv.flatMap cell5
theorem cells5_len (pv : List (Pa × Value)) : (cells5 pv).length = pv.length * 3 := by
  induction pv with
  | nil => rfl
  | cons a pv ih => simp only [cells5, List.flatMap_cons, List.length_append, List.length_cons] at *; rw [ih]; simp [cell5]; omega
theorem cells5_get : ∀ {pv : List (Pa × Value)} {i : Nat} {x : Pa × Value}, pv[i]? = some x → (cells5 pv)[i * 3]? = some (.int .u32 (x.1.p : Nat)) ∧ (cells5 pv)[i * 3 + 1]? = some (.int .i64 (x.1.l : Nat)) ∧ (cells5 pv)[i * 3 + 2]? = some x.2
  | a :: pv, 0, x, h => by simp at h; subst h; exact ⟨rfl, rfl, rfl⟩
  | a :: pv, i + 1, x, h => by
    have := cells5_get (pv := pv) (i := i) (x := x) (by simpa using h)
    simp only [cells5, List.flatMap_cons, show (i + 1) * 3 = i * 3 + 1 + 1 + 1 from by omega]
    exact this
  | [], _, _, h => by simp at h
theorem cells5_append (a b : List (Pa × Value)) : cells5 (a ++ b) = cells5 a ++ cells5 b := by simp [cells5]
theorem cells5_take : ∀ (pv : List (Pa × Value)) (i : Nat), (cells5 pv).take (i * 3) = cells5 (pv.take i)
  | [], i => by simp [cells5]
  | a :: pv, 0 => by simp [cells5]
  | a :: pv, i + 1 => by
    have := cells5_take pv i
    simp only [cells5, List.flatMap_cons, List.take_succ_cons, show (i + 1) * 3 = i * 3 + 1 + 1 + 1 from by omega] at *
    simp only [cell5, List.cons_append, List.nil_append, List.take_succ_cons, this]
theorem cells5_drop : ∀ (pv : List (Pa × Value)) (i : Nat), (cells5 pv).drop (i * 3) = cells5 (pv.drop i)
  | [], i => by simp [cells5]
  | a :: pv, 0 => by simp [cells5]
  | a :: pv, i + 1 => by
    have := cells5_drop pv i
    simp only [cells5, List.flatMap_cons, List.drop_succ_cons, show (i + 1) * 3 = i * 3 + 1 + 1 + 1 from by omega] at *
    simp only [cell5, List.cons_append, List.nil_append, List.drop_succ_cons, this]
theorem cells5_set : ∀ (pv : List (Pa × Value)) (i : Nat) (x : Pa × Value), i < pv.length → cells5 (pv.set i x) = (((cells5 pv).set (i * 3) (.int .u32 (x.1.p : Nat))).set (i * 3 + 1) (.int .i64 (x.1.l : Nat))).set (i * 3 + 2) x.2
  | [], i, x, h => by simp at h
  | a :: pv, 0, x, h => by simp [cells5, cell5]
  | a :: pv, i + 1, x, h => by
    have := cells5_set pv i x (by simpa using h)
    simp only [cells5, List.flatMap_cons, List.set_cons_succ, show (i + 1) * 3 = i * 3 + 1 + 1 + 1 from by omega] at *
    simp only [this, cell5, List.cons_append, List.nil_append, List.set_cons_succ, show i * 3 + 1 + 1 + 1 + 1 = i * 3 + 1 + 1 + 1 + 1 from rfl]
theorem cells5_one {w : World} {pv : List (Pa × Value)} (h : ∀ x ∈ pv, SlK .i64 w x.2 x.1.ts) : ∀ u ∈ cells5 pv, u.oneCell' = true := by
  intro u hu
  obtain ⟨x, hx, hu⟩ := List.mem_flatMap.1 hu
  simp only [cell5, List.mem_cons, List.not_mem_nil, or_false] at hu
  rcases hu with rfl | rfl | rfl
  · rfl
  · rfl
  · obtain ⟨a, c, e, _, _⟩ := (h x hx).shape
    rw [e]; rfl
/-- A cell of what is owned is written. -/
theorem own_set {w : World} {base e size g cap n : Nat} {xs : List Value} (h : w.ownsRow base e size (.slice (some ⟨g, 0, none⟩) n cap) n xs) {i : Nat} (hi : i < xs.length) (u : Value) : (w.setCell ⟨g, i, none⟩ u).ownsRow base e size (.slice (some ⟨g, 0, none⟩) n cap) n (xs.set i u) := by
  obtain ⟨hl, h2⟩ := h
  refine ⟨by simpa using hl, .inr ?_⟩
  rcases h2 with ⟨h2, _⟩ | ⟨g', cap', cur, h2, hg, hh, h3, h4, h5, h6⟩
  · cases h2
  · simp only [Value.slice.injEq, Option.some.injEq, Addr.mk.injEq] at h2
    obtain ⟨⟨rfl, _⟩, _, rfl⟩ := h2
    refine ⟨g, cap, cur.setIfInBounds i u, rfl, hg, ?_, h3, h4, by simp [h5], ?_⟩
    · simp [World.setCell, Array.getElem?_modify, hh]
    · rw [Array.toList_setIfInBounds, List.take_set, h6]
theorem own_at {w : World} {base e size n : Nat} {v : Value} {xs : List Value} (h : w.ownsRow base e size v n xs) (hn : 0 < n) : ∃ g cap, v = .slice (some ⟨g, 0, none⟩) n cap ∧ n ≤ cap ∧ cap ≤ maxLen ∧ g < w.heap.size ∧ (∀ i, w.frozen? ⟨g, i, none⟩ = false) ∧ (∀ (i : Nat) (u : Value), xs[i]? = some u → w.cell? ⟨g, i, none⟩ = some u) := by
  have hlt := World.ownsRow.lt h
  obtain ⟨hl, h2⟩ := h
  rcases h2 with ⟨rfl, rfl⟩ | ⟨g, cap, cur, rfl, hg, hh, h3, h4, h5, h6⟩
  · omega
  · refine ⟨g, cap, rfl, h3, h4, (hlt g rfl).2, fun i => by simp [World.frozen?, hh], fun i u hi => ?_⟩
    have hil := (List.getElem?_eq_some_iff.1 hi).1
    rw [hl] at hil
    rw [← h6, List.getElem?_take, if_pos hil] at hi
    simpa [World.cell?, hh] using hi
theorem own_shape {w : World} {base e size n : Nat} {v : Value} {xs : List Value} (h : w.ownsRow base e size v n xs) : ∃ a cap, v = .slice a n cap ∧ n ≤ cap ∧ cap ≤ maxLen := by
  obtain ⟨hl, h2⟩ := h
  rcases h2 with ⟨rfl, rfl⟩ | ⟨g, cap, cur, rfl, hg, hh, h3, h4, h5, h6⟩
  · exact ⟨none, 0, rfl, Nat.le_refl _, by unfold maxLen; omega⟩
  · exact ⟨_, cap, rfl, h3, h4⟩
theorem EIp : EI Try.prog 61 97 3 40 := EI.mk' (z := .agg #[.int .u32 0, .int .i64 0, .slice none 0 0]) Try.underlying61 (by kernel_rfl) rfl (by decide)

def rows5 (s : S5) : RowsF := fun i => if i = 7 then some (.u32, s.old) else none
theorem rows5_7 (s s' : S5) : upd (rows5 s) 7 (some (.u32, s'.old)) = rows5 s' := by
  funext i
  by_cases e : i = 7
  · subst e; rw [upd_same]; rfl
  · rw [upd_other _ _ e]; simp [rows5, e]
/-- The state in memory; pv: the pasts, and where their times lie. -/
structure M5 (w : World) (pb gb ob n K near kept : Nat) (hc : Nat → Value) (s : S5) (pv : List (Pa × Value)) : Prop where
  g : PG w pb 9 gb ob n hc (rows5 s) s.page s.on
  c0 : hc 0 = .int .i64 n
  c1 : hc 1 = .int .i64 K
  c2 : hc 2 = .int .i64 near
  c3 : hc 3 = .int .i64 kept
  c4 : hc 4 = .slice (some ⟨gb, 0, none⟩) n n
  c5 : hc 5 = .slice (some ⟨ob, 0, none⟩) n n
  c8 : hc 8 = .int .i64 s.T
  ps : s.ps = pv.map (·.1)
  own : w.ownsRow 0 97 3 (hc 6) pv.length (cells5 pv)
  ts : ∀ x ∈ pv, SlK .i64 w x.2 x.1.ts ∧ ∀ b, x.2.ownBlock = some b → ¬ FP pb gb ob b ∧ ¬ (hc 6).ownBlock = some b
  v6 : ∀ b, (hc 6).ownBlock = some b → ¬ FP pb gb ob b ∧ ¬ (hc 7).ownBlock = some b
def F5 (pb gb ob : Nat) (hc : Nat → Value) : Nat → Prop := fun i => FP pb gb ob i ∨ (hc 6).ownBlock = some i
def D5 (pb gb ob : Nat) (hc : Nat → Value) (s : S5) (pv : List (Pa × Value)) : Nat → Prop := fun i => DP pb gb ob hc (rows5 s) i ∨ (hc 6).ownBlock = some i ∨ ∃ x ∈ pv, x.2.ownBlock = some i
theorem D5_FP {pb gb ob : Nat} {hc : Nat → Value} {s : S5} {pv : List (Pa × Value)} {i : Nat} (h : FP pb gb ob i) : D5 pb gb ob hc s pv i := .inl (.inl h)
section
variable {w w' w0 : World} {pb gb ob n K near kept : Nat} {hc : Nat → Value} {s : S5} {pv : List (Pa × Value)} {F0 D0 : Nat → Prop}
theorem M5.fr (h : M5 w pb gb ob n K near kept hc s pv) {G : Nat → Prop} (f : Fr G w w') (hG : ∀ i, D5 pb gb ob hc s pv i → ¬ G i) : M5 w' pb gb ob n K near kept hc s pv :=
  ⟨h.g.fr f (fun i q => hG i (.inl q)), h.c0, h.c1, h.c2, h.c3, h.c4, h.c5, h.c8, h.ps, own_keep h.own f (fun b q => hG b (.inr (.inl q))), fun x hx => ⟨(h.ts x hx).1.fr f (fun b q => hG b (.inr (.inr ⟨x, hx, q⟩))), (h.ts x hx).2⟩, h.v6⟩
theorem M5.fr0 (h : M5 w pb gb ob n K near kept hc s pv) (f : Fr NoF w w') : M5 w' pb gb ob n K near kept hc s pv := h.fr f (fun _ _ q => q)
theorem M5.lt (h : M5 w pb gb ob n K near kept hc s pv) : ∀ i, D5 pb gb ob hc s pv i → i < w.heap.size := by
  rintro i (q | q | ⟨x, hx, q⟩)
  · exact h.g.lt i q
  · exact (World.ownsRow.lt h.own i q).2
  · exact (h.ts x hx).1.lt i q
theorem M5.sl (h : M5 w pb gb ob n K near kept hc s pv) : SlC w 3 (hc 6) pv.length (cells5 pv) := SlC.ofOwn h.own (cells5_one (fun x hx => (h.ts x hx).1))
theorem M5.pl (h : M5 w pb gb ob n K near kept hc s pv) : s.ps.length = pv.length := by rw [h.ps]; simp
/-- What stands at a past. -/
theorem M5.past (h : M5 w pb gb ob n K near kept hc s pv) {i : Nat} {x : Pa × Value} (hx : pv[i]? = some x) : ∃ b c, hc 6 = .slice (some ⟨b, 0, none⟩) pv.length c ∧ pv.length ≤ c ∧ c ≤ maxLen ∧ b < w.heap.size ∧ (∀ i, w.frozen? ⟨b, i, none⟩ = false) ∧ w.cell? ⟨b, i * 3, none⟩ = some (.int .u32 (x.1.p : Nat)) ∧ w.cell? ⟨b, i * 3 + 1, none⟩ = some (.int .i64 (x.1.l : Nat)) ∧ w.cell? ⟨b, i * 3 + 2, none⟩ = some x.2 := by
  have hi := (List.getElem?_eq_some_iff.1 hx).1
  obtain ⟨g, c, e, h1, h2, h3, h4, h5⟩ := own_at h.own (by omega)
  obtain ⟨g1, g2, g3⟩ := cells5_get hx
  exact ⟨g, c, e, h1, h2, h3, h4, h5 _ _ g1, h5 _ _ g2, h5 _ _ g3⟩

/-- .. and what has been left since world w0, whose blocks were D0, and F0 those that may change. -/
structure P5 (w0 : World) (F0 D0 : Nat → Prop) (pb gb ob n K near kept : Nat) (w : World) (hc : Nat → Value) (s : S5) (pv : List (Pa × Value)) : Prop where
  m : M5 w pb gb ob n K near kept hc s pv
  f : Fr F0 w0 w
  s0 : ∀ i, F5 pb gb ob hc i → F0 i ∨ w0.heap.size ≤ i
  d : ∀ i, D5 pb gb ob hc s pv i → D0 i ∨ w0.heap.size ≤ i
theorem P5.start (h : M5 w pb gb ob n K near kept hc s pv) : P5 w (F5 pb gb ob hc) (D5 pb gb ob hc s pv) pb gb ob n K near kept w hc s pv := ⟨h, Fr.refl _ _, fun i q => .inl q, fun i q => .inl q⟩
theorem P5.fr0 (h : P5 w0 F0 D0 pb gb ob n K near kept w hc s pv) (f : Fr NoF w w') : P5 w0 F0 D0 pb gb ob n K near kept w' hc s pv := ⟨h.m.fr0 f, h.f.trans f (fun _ q => q.elim), h.s0, h.d⟩
theorem P5.setOn (h : P5 w0 F0 D0 pb gb ob n K near kept w hc s pv) (a : Nat) (x : Bool) : P5 w0 F0 D0 pb gb ob n K near kept (w.setCell ⟨ob, a, none⟩ (.bool x)) hc ⟨s.page, upd s.on a x, s.ps, s.old, s.T⟩ pv := by
  have f : Fr (fun i => i = ob) w (w.setCell ⟨ob, a, none⟩ (.bool x)) := (Fr.refl (fun i => i = ob) w).setCell (p := ⟨ob, a, none⟩) (.inl rfl) _
  have hm := h.m
  refine ⟨⟨hm.g.setOn a x, hm.c0, hm.c1, hm.c2, hm.c3, hm.c4, hm.c5, hm.c8, hm.ps, own_keep hm.own f (fun b q e => (hm.v6 b q).1 (.inr (.inr e))), fun y hy => ⟨(hm.ts y hy).1.fr f (fun b q e => ((hm.ts y hy).2 b q).1 (.inr (.inr e))), (hm.ts y hy).2⟩, hm.v6⟩, h.f.trans f (fun i e => h.s0 i (.inl (.inr (.inr e)))), h.s0, h.d⟩
theorem P5.setPage (h : P5 w0 F0 D0 pb gb ob n K near kept w hc s pv) {a : Nat} (ha : a < n) (id : Nat) : P5 w0 F0 D0 pb gb ob n K near kept (w.setCell ⟨gb, a, none⟩ (.int .u32 id)) hc ⟨s.page.set a id, s.on, s.ps, s.old, s.T⟩ pv := by
  have f : Fr (fun i => i = gb) w (w.setCell ⟨gb, a, none⟩ (.int .u32 id)) := (Fr.refl (fun i => i = gb) w).setCell (p := ⟨gb, a, none⟩) (.inl rfl) _
  have hm := h.m
  refine ⟨⟨hm.g.setPage ha id, hm.c0, hm.c1, hm.c2, hm.c3, hm.c4, hm.c5, hm.c8, hm.ps, own_keep hm.own f (fun b q e => (hm.v6 b q).1 (.inr (.inl e))), fun y hy => ⟨(hm.ts y hy).1.fr f (fun b q e => ((hm.ts y hy).2 b q).1 (.inr (.inl e))), (hm.ts y hy).2⟩, hm.v6⟩, h.f.trans f (fun i e => h.s0 i (.inl (.inr (.inl e)))), h.s0, h.d⟩
theorem P5.setT (h : P5 w0 F0 D0 pb gb ob n K near kept w hc s pv) (T : Nat) : P5 w0 F0 D0 pb gb ob n K near kept (w.setCell ⟨pb, 8, none⟩ (.int .i64 T)) (upd hc 8 (.int .i64 T)) ⟨s.page, s.on, s.ps, s.old, T⟩ pv := by
  have f : Fr (fun i => i = pb) w (w.setCell ⟨pb, 8, none⟩ (.int .i64 T)) := (Fr.refl (fun i => i = pb) w).setCell (p := ⟨pb, 8, none⟩) (.inl rfl) _
  have hm := h.m
  have e6 : upd hc 8 (.int .i64 T) 6 = hc 6 := upd_other _ _ (by omega)
  have e7 : upd hc 8 (.int .i64 T) 7 = hc 7 := upd_other _ _ (by omega)
  have ht : ∀ y ∈ pv, SlK .i64 (w.setCell ⟨pb, 8, none⟩ (.int .i64 T)) y.2 y.1.ts ∧ ∀ b, y.2.ownBlock = some b → ¬ FP pb gb ob b ∧ ¬ (upd hc 8 (.int .i64 T) 6).ownBlock = some b := fun y hy => ⟨(hm.ts y hy).1.fr f (fun b q e => ((hm.ts y hy).2 b q).1 (.inl e)), by rw [e6]; exact (hm.ts y hy).2⟩
  refine ⟨⟨hm.g.setNum 8 rfl _, by rw [upd_other _ _ (by omega)]; exact hm.c0, by rw [upd_other _ _ (by omega)]; exact hm.c1, by rw [upd_other _ _ (by omega)]; exact hm.c2, by rw [upd_other _ _ (by omega)]; exact hm.c3, by rw [upd_other _ _ (by omega)]; exact hm.c4, by rw [upd_other _ _ (by omega)]; exact hm.c5, upd_same _ _ _, hm.ps, ?_, ht, ?_⟩, h.f.trans f (fun i e => h.s0 i (.inl (.inl e))), fun i q => h.s0 i ?_, fun i q => h.d i ?_⟩
  · rw [e6]; exact own_keep hm.own f (fun b q e => (hm.v6 b q).1 (.inl e))
  · rw [e6, e7]; exact hm.v6
  · unfold F5 at *; rw [e6] at q; exact q
  · unfold D5 at *
    rw [e6] at q
    refine q.imp (fun q => q.imp id ?_) id
    rintro ⟨j, k, l, e, hb⟩
    have ej : ¬ j = 8 := by rintro rfl; cases e
    rw [upd_other _ _ ej] at hb
    exact ⟨j, k, l, e, hb⟩
/-- The remembered pages are laid anew. -/
theorem P5.setOld (h : P5 w0 F0 D0 pb gb ob n K near kept w hc s pv) {v : Value} {l : List Nat} (hs : SlK .u32 w v l) (hv : ∀ b, v.ownBlock = some b → (w0.heap.size ≤ b ∧ ¬ D5 pb gb ob hc s pv b) ∨ (hc 7).ownBlock = some b) : P5 w0 F0 D0 pb gb ob n K near kept (w.setCell ⟨pb, 7, none⟩ v) (upd hc 7 v) ⟨s.page, s.on, s.ps, l, s.T⟩ pv := by
  have f : Fr (fun i => i = pb) w (w.setCell ⟨pb, 7, none⟩ v) := (Fr.refl (fun i => i = pb) w).setCell (p := ⟨pb, 7, none⟩) (.inl rfl) _
  have hm := h.m
  have e6 : upd hc 7 v 6 = hc 6 := upd_other _ _ (by omega)
  have hr : upd (rows5 s) 7 (some (.u32, l)) = rows5 ⟨s.page, s.on, s.ps, l, s.T⟩ := rows5_7 s ⟨s.page, s.on, s.ps, l, s.T⟩
  have hv7 : ∀ b, (hc 7).ownBlock = some b → ¬ b = pb ∧ ¬ b = gb ∧ ¬ b = ob := fun b q => (hm.g.sl 7 .u32 s.old rfl).2 b q
  have hvF : ∀ b, v.ownBlock = some b → ¬ b = pb ∧ ¬ b = gb ∧ ¬ b = ob := fun b q => by
    rcases hv b q with ⟨_, q2⟩ | q2
    · exact ⟨fun e => q2 (D5_FP (.inl e)), fun e => q2 (D5_FP (.inr (.inl e))), fun e => q2 (D5_FP (.inr (.inr e)))⟩
    · exact hv7 b q2
  have hg := hm.g.setRow 7 hs hvF
  rw [hr] at hg
  refine ⟨⟨hg, by rw [upd_other _ _ (by omega)]; exact hm.c0, by rw [upd_other _ _ (by omega)]; exact hm.c1, by rw [upd_other _ _ (by omega)]; exact hm.c2, by rw [upd_other _ _ (by omega)]; exact hm.c3, by rw [upd_other _ _ (by omega)]; exact hm.c4, by rw [upd_other _ _ (by omega)]; exact hm.c5, by rw [upd_other _ _ (by omega)]; exact hm.c8, hm.ps, ?_, fun y hy => ⟨(hm.ts y hy).1.fr f (fun b q e => ((hm.ts y hy).2 b q).1 (.inl e)), by rw [e6]; exact (hm.ts y hy).2⟩, ?_⟩, h.f.trans f (fun i e => h.s0 i (.inl (.inl e))), fun i q => h.s0 i ?_, fun i q => ?_⟩
  · rw [e6]; exact own_keep hm.own f (fun b q e => (hm.v6 b q).1 (.inl e))
  · rw [e6, upd_same]
    intro b q
    refine ⟨(hm.v6 b q).1, fun q2 => ?_⟩
    rcases hv b q2 with ⟨_, q3⟩ | q3
    · exact q3 (.inr (.inl q))
    · exact (hm.v6 b q).2 q3
  · unfold F5 at *; rw [e6] at q; exact q
  · unfold D5 at q
    rw [e6] at q
    rcases q with (q | ⟨j, k, l', e, hb⟩) | q
    · exact h.d i (D5_FP q)
    · have ej : j = 7 := by
        apply Classical.byContradiction
        intro hn
        simp [rows5, hn] at e
      subst ej
      rw [upd_same] at hb
      rcases hv i hb with ⟨q2, _⟩ | q2
      · exact .inr q2
      · exact h.d i (.inl (.inr ⟨7, .u32, s.old, rfl, q2⟩))
    · exact h.d i (.inr q)
/-- The pasts are laid anew (or grown in place). -/
theorem P5.setPs (h : P5 w0 F0 D0 pb gb ob n K near kept w hc s pv) {w1 : World} {v : Value} {pv' : List (Pa × Value)} (f : Fr (fun b => (hc 6).ownBlock = some b) w w1) (ho : w1.ownsRow 0 97 3 v pv'.length (cells5 pv')) (hv : ∀ b, v.ownBlock = some b → (hc 6).ownBlock = some b ∨ w.heap.size ≤ b)
    (ht : ∀ x ∈ pv', x ∈ pv ∨ (SlK .i64 w1 x.2 x.1.ts ∧ ∀ b, x.2.ownBlock = some b → (w0.heap.size ≤ b ∧ ¬ FP pb gb ob b ∧ ¬ v.ownBlock = some b) ∨ (∃ y ∈ pv, y.2.ownBlock = some b) ∧ ¬ v.ownBlock = some b)) :
    P5 w0 F0 D0 pb gb ob n K near kept (w1.setCell ⟨pb, 6, none⟩ v) (upd hc 6 v) ⟨s.page, s.on, pv'.map (·.1), s.old, s.T⟩ pv' := by
  have hm := h.m
  have lt := hm.lt
  have fp : Fr (fun i => i = pb) w1 (w1.setCell ⟨pb, 6, none⟩ v) := (Fr.refl (fun i => i = pb) w1).setCell (p := ⟨pb, 6, none⟩) (.inl rfl) _
  have nF : ∀ i, DP pb gb ob hc (rows5 s) i → ¬ (hc 6).ownBlock = some i := fun i q q2 => by
    rcases q with q | ⟨j, k, l, e, hb⟩
    · exact (hm.v6 i q2).1 q
    · have ej : j = 7 := by
        apply Classical.byContradiction
        intro hn
        simp [rows5, hn] at e
      subst ej
      exact (hm.v6 i q2).2 hb
  have hg := (hm.g.fr f nF).setNum 6 rfl v
  have hvF : ∀ b, v.ownBlock = some b → ¬ FP pb gb ob b ∧ ¬ (hc 7).ownBlock = some b := fun b q => by
    rcases hv b q with q2 | q2
    · exact hm.v6 b q2
    · refine ⟨fun q3 => ?_, fun q3 => ?_⟩
      · have := lt b (D5_FP q3); omega
      · have := lt b (.inl (.inr ⟨7, .u32, s.old, rfl, q3⟩)); omega
  have hvP : ∀ x ∈ pv, ∀ b, x.2.ownBlock = some b → ¬ v.ownBlock = some b := fun x hx b q q2 => by
    rcases hv b q2 with q3 | q3
    · exact ((hm.ts x hx).2 b q).2 q3
    · have := lt b (.inr (.inr ⟨x, hx, q⟩)); omega
  have e7 : upd hc 6 v 7 = hc 7 := upd_other _ _ (by omega)
  refine ⟨⟨hg, by rw [upd_other _ _ (by omega)]; exact hm.c0, by rw [upd_other _ _ (by omega)]; exact hm.c1, by rw [upd_other _ _ (by omega)]; exact hm.c2, by rw [upd_other _ _ (by omega)]; exact hm.c3, by rw [upd_other _ _ (by omega)]; exact hm.c4, by rw [upd_other _ _ (by omega)]; exact hm.c5, by rw [upd_other _ _ (by omega)]; exact hm.c8, rfl, ?_, fun x hx => ?_, ?_⟩, (h.f.trans f (fun i e => h.s0 i (.inr e))).trans fp (fun i e => h.s0 i (.inl (.inl e))), fun i q => ?_, fun i q => ?_⟩
  · rw [upd_same]; exact own_keep ho fp (fun b q e => (hvF b q).1 (.inl e))
  · rw [upd_same]
    rcases ht x hx with q | ⟨q1, q2⟩
    · exact ⟨((hm.ts x q).1.fr f (fun b q2 q3 => ((hm.ts x q).2 b q2).2 q3)).fr fp (fun b q2 e => ((hm.ts x q).2 b q2).1 (.inl e)), fun b q2 => ⟨((hm.ts x q).2 b q2).1, hvP x q b q2⟩⟩
    · refine ⟨q1.fr fp (fun b q3 e => ?_), fun b q3 => ?_⟩
      · rcases q2 b q3 with ⟨_, q4, _⟩ | ⟨⟨y, hy, q4⟩, _⟩
        · exact q4 (.inl e)
        · exact ((hm.ts y hy).2 b q4).1 (.inl e)
      · rcases q2 b q3 with ⟨_, q4, q5⟩ | ⟨⟨y, hy, q4⟩, q5⟩
        · exact ⟨q4, q5⟩
        · exact ⟨((hm.ts y hy).2 b q4).1, q5⟩
  · rw [upd_same, e7]; exact hvF
  · unfold F5 at q
    rw [upd_same] at q
    rcases q with q | q
    · exact h.s0 i (.inl q)
    · rcases hv i q with q2 | q2
      · exact h.s0 i (.inr q2)
      · right; have := h.f.size; omega
  · unfold D5 at q
    rw [upd_same] at q
    rcases q with (q | ⟨j, k, l, e, hb⟩) | q | ⟨x, hx, q⟩
    · exact h.d i (D5_FP q)
    · have ej : j = 7 := by
        apply Classical.byContradiction
        intro hn
        simp [rows5, hn] at e
      subst ej
      rw [e7] at hb
      exact h.d i (.inl (.inr ⟨7, .u32, s.old, rfl, hb⟩))
    · rcases hv i q with q2 | q2
      · exact h.d i (.inr (.inl q2))
      · right; have := h.f.size; omega
    · rcases ht x hx with q2 | ⟨_, q2⟩
      · exact h.d i (.inr (.inr ⟨x, q2, q⟩))
      · rcases q2 i q with ⟨q3, _⟩ | ⟨⟨y, hy, q3⟩, _⟩
        · exact .inr q3
        · exact h.d i (.inr (.inr ⟨y, hy, q3⟩))

/-- What a call leaves. -/
def Res5 (w : World) (pb gb ob n K near kept : Nat) (hc : Nat → Value) (s : S5) (pv : List (Pa × Value)) (s' : S5) (w' : World) : Prop :=
  ∃ hc' pv', P5 w (F5 pb gb ob hc) (D5 pb gb ob hc s pv) pb gb ob n K near kept w' hc' s' pv'

theorem s5_miss (a : Option Addr) (p : Int) : Calls Try.prog 20 #[.pointer a, .int .u32 p] w fun e w' => e = .returned (.tuple #[]) ∧ w = w' := by
  go_enter Try.func20, Try.ntmps20
  go_wp2
  go_returns
  exact ⟨rfl, rfl⟩
theorem s5_ghosts (h : M5 w pb gb ob n K near kept hc s pv) : Calls Try.prog 41 #[.pointer (some ⟨pb, 0, none⟩)] w fun e w' => e = .returned (hc 7) ∧ w = w' := by
  obtain ⟨a, c, e7, _, _, _, _⟩ := h.g.row (i := 7) (k := .u32) (l := s.old) rfl
  have c7 := h.g.c 7 (by omega) e7
  rw [e7]
  clear h e7
  go_enter Try.func41, Try.ntmps41
  go_wp2
  go_returns
  exact ⟨rfl, rfl⟩
theorem s5_set (h : M5 w pb gb ob n K near kept hc s pv) {a : Nat} (ha : a < n) (x : Bool) : Calls Try.prog 24 #[.pointer (some ⟨pb, 0, none⟩), .int .i64 a, .bool x] w fun e w' => e = .returned (.tuple #[]) ∧ Res5 w pb gb ob n K near kept hc s pv ⟨s.page, upd s.on a x, s.ps, s.old, s.T⟩ w' := by
  have c5 := h.g.c 5 (by omega) h.c5
  have co := h.g.co ha
  have fo := h.g.on.frozen a
  have hn := h.g.hn
  have R : Hid (Res5 w pb gb ob n K near kept hc s pv ⟨s.page, upd s.on a x, s.ps, s.old, s.T⟩ (w.setCell ⟨ob, a, none⟩ (.bool x))) := ⟨hc, pv, (P5.start h).setOn a x⟩
  clear h
  go_enter Try.func24, Try.ntmps24
  go_wp2
  go_returns
  exact ⟨rfl, R.out⟩
/-- Where a page's past is. -/
theorem s5_of (h : M5 w pb gb ob n K near kept hc s pv) (hl : pv.length < 1000000) (x : Nat) : Calls Try.prog 45 #[.pointer (some ⟨pb, 0, none⟩), .int .u32 x] w fun e w' => e = .returned (.int .i64 (fstI (idxP s.ps x))) ∧ w = w' := by
  obtain ⟨a6, k6, e6, q1, q2⟩ := own_shape h.own
  unfold maxLen at q2
  have c6 := h.g.c 6 (by omega) e6
  have lp := h.g.hd.lt
  have HM := Lib.hid h
  have HPS := Lib.hid h.ps
  have HPL := Lib.hid h.pl
  have E6 := Lib.hid e6
  clear h e6
  go_enter Try.func45, Try.ntmps45
  go_wp2
  go_loop [5] (fun i => ∃ k : Nat, k ≤ pv.length ∧ i = .int .i64 k ∧ ∀ q ∈ s.ps.take k, ¬ q.p = x) (fun i => pv.length - (intOf i).toNat)
  case atStart => exact ⟨0, Nat.zero_le _, rfl, by simp⟩
  case round =>
    obtain ⟨k, hk, rfl, hno⟩ := hrel
    have HN := Lib.hid hno
    clear hno
    by_cases hlt : k < pv.length
    · obtain ⟨b, c, e, _, _, hb, _, d0, _, _⟩ := HM.out.past (List.getElem?_eq_getElem hlt)
      rw [E6.out] at e
      simp only [Value.slice.injEq] at e
      obtain ⟨rfl, _, rfl⟩ := e
      have hkl : k < s.ps.length := by rw [HPL.out]; exact hlt
      have HT := Lib.hid (List.take_succ_eq_append_getElem hkl)
      have HE : Hid (s.ps[k] = pv[k].1) := by unfold Hid; simp [HPS.out]
      by_cases hy : pv[k].1.p = x
      · have he : ((pv[k].1.p : Int) == (x : Int)) = true := by simp [hy]
        have HI : Hid (idxP s.ps x = some k) := idxP_is hkl (by rw [HE.out]; exact hy) HN.out
        generalize pv[k].1.p = y at *
        clear hy HT HE
        go_wp2
        go_returns
        exact ⟨by rw [HI.out]; rfl, rfl⟩
      · have he : ((pv[k].1.p : Int) == (x : Int)) = false := by simp; omega
        have HY : Hid (¬ s.ps[k].p = x) := by unfold Hid; rw [HE.out]; exact hy
        generalize pv[k].1.p = y at *
        clear hy HE
        go_wp2
        go_round
        case rel => exact ⟨k + 1, by omega, by go_num, fun q hq => by
          rw [HT.out] at hq
          rcases List.mem_append.1 hq with h | h
          · exact HN.out q h
          · rw [List.mem_singleton.1 h]; exact HY.out⟩
        case measure => simp [intOf]; omega
    · obtain rfl : k = pv.length := by omega
      have HI : Hid (idxP s.ps x = none) := idxP_no (fun q hq => HN.out q (by rw [← HPL.out, List.take_length]; exact hq))
      go_wp2
      go_returns
      exact ⟨by rw [HI.out]; rfl, rfl⟩
end
end Go.Proofs.Ytbnckhkamebibaa
namespace Go.Proofs.Ytbnckhkamebibaa
open Go.RowKit
set_option linter.unusedVariables false

section
variable {w w' w0 w2 : World} {pb gb ob n K near kept : Nat} {hc hc' : Nat → Value} {s s' : S5} {pv pv' : List (Pa × Value)} {F0 D0 : Nat → Prop}
theorem P5.trans (h : P5 w0 F0 D0 pb gb ob n K near kept w hc s pv) (k : P5 w (F5 pb gb ob hc) (D5 pb gb ob hc s pv) pb gb ob n K near kept w2 hc' s' pv') : P5 w0 F0 D0 pb gb ob n K near kept w2 hc' s' pv' :=
  ⟨k.m, h.f.trans k.f (fun i q => h.s0 i q), fun i q => (k.s0 i q).elim (fun q => h.s0 i q) (fun q => .inr (Nat.le_trans h.f.size q)), fun i q => (k.d i q).elim (fun q => h.d i q) (fun q => .inr (Nat.le_trans h.f.size q))⟩
theorem M5.head (h : M5 w pb gb ob n K near kept hc s pv) {b off c i : Nat} (e : hc 6 = .slice (some ⟨b, off, none⟩) pv.length c) (hi : i < pv.length) : SlC w 3 (.slice (some ⟨b, off, none⟩) i c) i (cells5 (pv.take i)) := by
  have hs := h.sl
  rw [e] at hs
  obtain ⟨_, _, e2, h1, _⟩ := hs.shape
  simp only [Value.slice.injEq] at e2
  obtain ⟨_, _, rfl⟩ := e2
  obtain ⟨b', off', e2, hs2⟩ := hs.cut (lo := 0) (hi := i) (Nat.zero_le _) (by omega) rfl (by omega)
  simp only [Option.some.injEq, Addr.mk.injEq] at e2
  obtain ⟨rfl, rfl, _⟩ := e2
  have e3 : ((cells5 pv).drop (0 * 3)).take ((i - 0) * 3) = cells5 (pv.take i) := by rw [← cells5_take]; simp
  rw [e3] at hs2
  simpa using hs2
theorem M5.tail (h : M5 w pb gb ob n K near kept hc s pv) {b off c i : Nat} (e : hc 6 = .slice (some ⟨b, off, none⟩) pv.length c) (hi : i < pv.length) : SlC w 3 (.slice (if c = i + 1 then some ⟨b, off, none⟩ else some ⟨b, off + (i + 1) * 3, none⟩) (pv.length - (i + 1)) (c - (i + 1))) (pv.length - (i + 1)) (cells5 (pv.drop (i + 1))) := by
  have hs := h.sl
  rw [e] at hs
  obtain ⟨_, _, e2, h1, h2⟩ := hs.shape
  simp only [Value.slice.injEq] at e2
  obtain ⟨_, _, rfl⟩ := e2
  by_cases hc : c = i + 1
  · rw [if_pos hc]
    have : pv.drop (i + 1) = [] := by apply List.eq_nil_of_length_eq_zero; rw [List.length_drop]; omega
    rw [this, show pv.length - (i + 1) = 0 from by omega, show c - (i + 1) = 0 from by omega]
    exact ⟨_, 0, rfl, by simp [cells5], by simp [cells5], Nat.le_refl _, by unfold maxLen; omega, .inr ⟨b, off, rfl, hs.lt b rfl, fun j u hj => by simp [cells5] at hj⟩⟩
  · rw [if_neg hc]
    obtain ⟨b', off', e2, hs2⟩ := hs.cut (lo := i + 1) (hi := pv.length) (by omega) (Nat.le_refl _) rfl (by omega)
    simp only [Option.some.injEq, Addr.mk.injEq] at e2
    obtain ⟨rfl, rfl, _⟩ := e2
    have e3 : ((cells5 pv).drop ((i + 1) * 3)).take ((pv.length - (i + 1)) * 3) = cells5 (pv.drop (i + 1)) := by
      rw [cells5_drop, List.take_of_length_le (by rw [cells5_len, List.length_drop]; omega)]
    rw [e3] at hs2
    exact hs2
theorem _root_.Go.World.ownsRow.base0 {w : World} {base e size n : Nat} {v : Value} {xs : List Value} (h : w.ownsRow base e size v n xs) : w.ownsRow 0 e size v n xs := by
  obtain ⟨h1, h2⟩ := h
  refine ⟨h1, h2.imp id ?_⟩
  rintro ⟨g, cap, cur, e1, hg, r⟩
  exact ⟨g, cap, cur, e1, Nat.zero_le _, r⟩
theorem dropP_self {ps : List Pa} {x : Nat} (h : ∀ q ∈ ps, ¬ q.p = x) : dropP ps x = ps := by
  unfold dropP
  rw [List.filter_eq_self]
  intro q hq
  simpa using h q hq
set_option maxHeartbeats 2000000 in
theorem s5_forget (h : M5 w pb gb ob n K near kept hc s pv) (hl : pv.length < 100000) (ho : OneP s.ps) (x : Nat) : Calls Try.prog 43 #[.pointer (some ⟨pb, 0, none⟩), .int .u32 x] w fun e w' => e = .returned (.tuple #[]) ∧ Res5 w pb gb ob n K near kept hc s pv ⟨s.page, s.on, dropP s.ps x, s.old, s.T⟩ w' := by
  have HO := Lib.hid (s5_of h (by omega) x)
  have HM := Lib.hid h
  cases ei : idxP s.ps x with
  | none =>
    rw [ei] at HO
    have R : Hid (Res5 w pb gb ob n K near kept hc s pv ⟨s.page, s.on, dropP s.ps x, s.old, s.T⟩ w) := ⟨hc, pv, by rw [dropP_self (idxP_none ei)]; exact P5.start HM.out⟩
    clear h ei
    go_enter Try.func43, Try.ntmps43
    go_wp2_with fail
    refine HO.out.mono ?_
    rintro e w1 ⟨rfl, rfl⟩
    rw [show fstI none = -1 from rfl]
    go_wp2
    go_returns
    exact ⟨rfl, R.out⟩
  | some i =>
    rw [ei] at HO
    obtain ⟨a, ea, eax, hi⟩ := idxP_some ei
    have hip : i < pv.length := by rw [← h.pl]; exact hi
    obtain ⟨b, c, e6, q1, q2, lb, _, _, _, _⟩ := h.past (List.getElem?_eq_getElem hip)
    obtain ⟨off, hoff⟩ : ∃ o : Nat, o = 0 := ⟨0, rfl⟩
    rw [show (⟨b, 0, none⟩ : Addr) = ⟨b, off, none⟩ from by rw [hoff]] at e6
    clear hoff
    unfold maxLen at q2
    have c6 := h.g.c 6 (by omega) e6
    have lp := h.g.hd.lt
    have f6 := h.g.hd.frozen 6
    have HFI : Hid (∀ W, Fr NoF w W → SlC W 3 (.slice (some ⟨b, off, none⟩) i c) i (cells5 (pv.take i))) := fun W f => (h.head e6 hip).keep f
    obtain ⟨AD, hAD, hLA2⟩ : ∃ AD, (if c = i + 1 then some ⟨b, off, none⟩ else some ⟨b, off + (i + 1) * 3, none⟩) = AD ∧ Hid (∀ W, Fr NoF w W → SlC W 3 (.slice AD (pv.length - (i + 1)) (c - (i + 1))) (pv.length - (i + 1)) (cells5 (pv.drop (i + 1)))) := ⟨_, rfl, fun W f => (h.tail e6 hip).keep f⟩
    have HOW : Hid (∀ W, Fr NoF (w.alloc (.cells #[] 97)) W → W.ownsRow w.heap.size 97 3 (.slice (some ⟨w.heap.size, 0, none⟩) 0 0) 0 []) := fun W f => own_keep (own_new (w0 := w) (Nat.le_refl _) #[] 97 3 0 _ rfl rfl (by unfold maxLen; omega)) f (fun _ _ q => q)
    have KC : Hid (∀ W, Fr NoF w W → W.cell? ⟨pb, 6, none⟩ = some (.slice (some ⟨b, off, none⟩) pv.length c) ∧ W.frozen? ⟨pb, 6, none⟩ = false ∧ pb < W.heap.size) := fun W f => ⟨(h.fr0 f).g.c 6 (by omega) e6, (h.fr0 f).g.hd.frozen 6, (h.fr0 f).g.hd.lt⟩
    have HONE : Hid (∀ u ∈ cells5 pv, u.oneCell' = true) := cells5_one (fun x hx => (h.ts x hx).1)
    have HO1 : Hid (∀ u ∈ cells5 (pv.take i), u.oneCell' = true) := cells5_one (fun x hx => (h.ts x (List.mem_of_mem_take hx)).1)
    have HO2 : Hid (∀ u ∈ cells5 (pv.drop (i + 1)), u.oneCell' = true) := cells5_one (fun x hx => (h.ts x (List.mem_of_mem_drop hx)).1)
    have HCUT : Hid (s.ps.take i ++ s.ps.drop (i + 1) = dropP s.ps x) := by unfold Hid; rw [← eax]; exact cut_dropP ho ea
    have FIN : Hid (∀ w6 v6, w6.ownsRow w.heap.size 97 3 v6 (i + (pv.length - (i + 1))) (cells5 (pv.take i) ++ cells5 (pv.drop (i + 1))) → Fr NoF w w6 → Res5 w pb gb ob n K near kept hc s pv ⟨s.page, s.on, dropP s.ps x, s.old, s.T⟩ (w6.setCell ⟨pb, 6, none⟩ v6)) := by
      intro w6 v6 hown f
      have hlen : (pv.take i ++ pv.drop (i + 1)).length = i + (pv.length - (i + 1)) := by rw [List.length_append, List.length_take, List.length_drop, Nat.min_eq_left (by omega)]
      rw [← cells5_append, ← hlen] at hown
      have hb := ownBlock_own hown
      have hown0 : w6.ownsRow 0 97 3 v6 (pv.take i ++ pv.drop (i + 1)).length (cells5 (pv.take i ++ pv.drop (i + 1))) := hown.base0
      have hp := (P5.start HM.out).setPs (pv' := pv.take i ++ pv.drop (i + 1)) f.none hown0 (fun b q => .inr (hb b q)) (fun y hy => .inl (by
        rcases List.mem_append.1 hy with q | q
        · exact List.mem_of_mem_take q
        · exact List.mem_of_mem_drop q))
      have e : (pv.take i ++ pv.drop (i + 1)).map (·.1) = dropP s.ps x := by
        rw [← HCUT.out, HM.out.ps, List.map_append, List.map_take, List.map_drop]
      rw [e] at hp
      exact ⟨_, _, hp⟩
    clear h ei eax ea ho e6
    have hkc : i ≤ c := by omega
    have hk1 : i + 1 ≤ pv.length := hip
    have hk2 : i + 1 ≤ c := by omega
    have hki1 : 0 ≤ (i : Int) + 1 := by omega
    have hki2 : (i : Int) + 1 ≤ (pv.length : Int) := by omega
    have hkw : IntKind.i64.wrap ((i : Int) + 1) = ((i + 1 : Nat) : Int) := IntWalk.i64_in _ (by omega)
    go_enter Try.func43, Try.ntmps43
    go_wp2_with fail
    refine HO.out.mono ?_
    rintro e w1 ⟨rfl, rfl⟩
    rw [show fstI (some i) = (i : Int) from rfl]
    go_wp2
    go_region_law (first
      | (refine appSB (base := w.heap.size) EIp rfl (.tmp 11) (.tmp 17) rfl (by rfl) (by rfl) (by simp; try omega) (HOW.out _ (by repeat (first | exact Fr.refl NoF _ | apply Fr.drew | apply Fr.alloc))) (HFI.out _ (by repeat (first | exact Fr.refl NoF _ | apply Fr.drew | apply Fr.alloc))) (by unfold maxLen; omega) (by omega) ?_; intro v5 w5 hown5 hf5 hob5; rw [Nat.zero_add, List.nil_append] at hown5; obtain ⟨a5, c5, rfl, _, _⟩ := (SlC.ofOwn hown5 HO1.out).shape; have HO5 := Lib.hid hown5; have HF5 := Lib.hid (Fr.trans (F := NoF) (a := w) (by repeat (first | exact Fr.refl NoF _ | apply Fr.drew | apply Fr.alloc)) hf5 (fun i q => .inr (by cases q; exact Nat.le_refl _))); obtain ⟨x1, x2, x3⟩ := KC.out w5 HF5.out; have hs5 := HF5.out.size; clear hown5 hf5 hob5)
      | (refine appSB (base := w.heap.size) EIp rfl (.tmp 18) (.tmp 25) rfl (by rfl) (by rfl) hs5 HO5.out (hLA2.out _ HF5.out) (by unfold maxLen; omega) (by omega) ?_; intro v6 w6 hown6 hf6 hob6; obtain ⟨a6, c6', rfl, _, _⟩ := (SlC.ofOwn hown6 (fun u hu => by rcases List.mem_append.1 hu with q | q; exact HO1.out u q; exact HO2.out u q)).shape; have HO6 := Lib.hid hown6; have HF6 := Lib.hid (HF5.out.trans hf6 (fun i q => .inr (ownBlock_own HO5.out i q))); obtain ⟨y1, y2, y3⟩ := KC.out w6 HF6.out; clear hown6 hf6 hob6))
    all_goals
      go_wp2
      go_returns
      exact ⟨rfl, FIN.out _ _ HO6.out HF6.out⟩
end
end Go.Proofs.Ytbnckhkamebibaa
namespace Go.Proofs.Ytbnckhkamebibaa
open Go.RowKit
set_option linter.unusedVariables false

section
variable {w w' w0 w2 : World} {pb gb ob n K near kept : Nat} {hc hc' : Nat → Value} {s s' : S5} {pv pv' : List (Pa × Value)} {F0 D0 : Nat → Prop}
/-- The past of the page in a frame that may go. -/
theorem M5.frame (h : M5 w pb gb ob n K near kept hc s pv) (hi : Inv5 K kept n s) {g : Nat} (hg : okF s.page s.on g = true) : ∃ (j : Nat) (a : Pa) (v : Value), idxP s.ps (s.pg g) = some j ∧ pv[j]? = some (a, v) ∧ s.pa g = a ∧ PaOk K s.T a ∧ SlK .i64 w v a.ts ∧ ¬ s.pg g = 0 := by
  have hp : ¬ s.pg g = 0 := by
    unfold okF at hg
    intro q
    unfold S5.pg at q
    rw [q] at hg
    simp at hg
  have hs := hi.fp g hp
  cases e : getP s.ps (s.pg g) with
  | none => rw [e] at hs; cases hs
  | some a =>
    obtain ⟨j, ej⟩ := getP_idx e
    have hget := idxP_get ej hi.one
    rw [e, h.ps, List.getElem?_map] at hget
    cases ep : pv[j]? with
    | none => rw [ep] at hget; cases hget
    | some x =>
      rw [ep] at hget
      obtain ⟨a', v⟩ := x
      simp at hget
      subst hget
      exact ⟨j, a', v, ej, ep, by unfold S5.pa; rw [e]; rfl, hi.ok a' (getP_mem e).1, (h.ts _ (List.mem_of_getElem? ep)).1, hp⟩
theorem best_is (s : S5) (K near : Nat) (all : Bool) : ∀ (m f : Nat), s.bestF K near all m = some f → f < m ∧ s.may near all f = true
  | 0, f, h => by cases h
  | m + 1, f, h => by
    unfold S5.bestF at h
    by_cases hm : s.may near all m = true
    · rw [if_pos hm] at h
      cases e : s.bestF K near all m with
      | none => rw [e] at h; injection h with h; subst h; exact ⟨Nat.lt_succ_self _, hm⟩
      | some o =>
        rw [e] at h
        obtain ⟨b1, b2⟩ := best_is s K near all m o e
        simp only at h
        by_cases hw : s.worse K m o = true
        · rw [if_pos hw] at h; injection h with h; subst h; exact ⟨by omega, b2⟩
        · rw [if_neg hw] at h; injection h with h; subst h; exact ⟨Nat.lt_succ_self _, hm⟩
    · rw [if_neg hm] at h
      obtain ⟨b1, b2⟩ := best_is s K near all m f h
      exact ⟨by omega, b2⟩
theorem may_okF {all : Bool} {f : Nat} (h : s.may near all f = true) : okF s.page s.on f = true := by
  unfold S5.may at h
  rw [Bool.and_eq_true] at h
  exact h.1
theorem best_skip {all : Bool} {m : Nat} (h : s.may near all m = false) : s.bestF K near all (m + 1) = s.bestF K near all m := by
  conv => lhs; unfold S5.bestF
  rw [h]; rfl
theorem best_first {all : Bool} {m : Nat} (h : s.may near all m = true) (hb : s.bestF K near all m = none) : s.bestF K near all (m + 1) = some m := by
  conv => lhs; unfold S5.bestF
  rw [h, hb]; rfl
theorem best_next {all : Bool} {m o : Nat} (h : s.may near all m = true) (hb : s.bestF K near all m = some o) : s.bestF K near all (m + 1) = if s.worse K m o = true then some o else some m := by
  conv => lhs; unfold S5.bestF
  rw [h, hb]; rfl
def BestRel (w0 : World) (s : S5) (K near : Nat) (all : Bool) (n : Nat) (o i : Value) (wr : World) : Prop :=
  ∃ m : Nat, m ≤ n ∧ i = .int .i64 m ∧ o = .int .i64 (fstI (s.bestF K near all m)) ∧ Fr NoF w0 wr
set_option maxRecDepth 100000 in
set_option maxHeartbeats 4000000 in
theorem s5_best (h : M5 w pb gb ob n K near kept hc s pv) (hi : Inv5 K kept n s) (hT : s.T < 100000) (hK : K < 1000) (hr : near < 1000) (all : Bool) : Calls Try.prog 42 #[.pointer (some ⟨pb, 0, none⟩), .bool all] w fun e w' => e = .returned (.int .i64 (fstI (s.bestF K near all n))) ∧ Fr NoF w w' := by
  have hpl : pv.length < 100000 := by rw [← h.pl]; have := hi.len; omega
  have HOF : Hid (∀ W, Fr NoF w W → ∀ x : Nat, Calls Try.prog 45 #[.pointer (some ⟨pb, 0, none⟩), .int .u32 x] W fun e w' => e = .returned (.int .i64 (fstI (idxP s.ps x))) ∧ W = w') := fun W f x => s5_of (h.fr0 f) (by omega) x
  obtain ⟨a6, k6, e6, q1, q2⟩ := own_shape h.own
  have hn := h.g.hn
  unfold maxLen at q2
  have KC : Hid (∀ W, Fr NoF w W → W.cell? ⟨pb, 0, none⟩ = some (.int .i64 n) ∧ W.cell? ⟨pb, 1, none⟩ = some (.int .i64 K) ∧ W.cell? ⟨pb, 2, none⟩ = some (.int .i64 near) ∧ W.cell? ⟨pb, 4, none⟩ = some (.slice (some ⟨gb, 0, none⟩) n n) ∧ W.cell? ⟨pb, 5, none⟩ = some (.slice (some ⟨ob, 0, none⟩) n n) ∧ W.cell? ⟨pb, 6, none⟩ = some (.slice a6 pv.length k6) ∧ W.cell? ⟨pb, 8, none⟩ = some (.int .i64 s.T) ∧ pb < W.heap.size ∧ gb < W.heap.size) := fun W f => by
    have hw := h.fr0 f
    exact ⟨hw.g.c 0 (by omega) h.c0, hw.g.c 1 (by omega) h.c1, hw.g.c 2 (by omega) h.c2, hw.g.c 4 (by omega) h.c4, hw.g.c 5 (by omega) h.c5, hw.g.c 6 (by omega) e6, hw.g.c 8 (by omega) h.c8, hw.g.hd.lt, hw.g.pg.lt⟩
  have KP : Hid (∀ W, Fr NoF w W → ∀ a, a < n → W.cell? ⟨gb, a, none⟩ = some (.int .u32 (s.pg a : Nat)) ∧ W.cell? ⟨ob, a, none⟩ = some (.bool (s.on a))) := fun W f a ha => ⟨(h.fr0 f).g.cp ha, (h.fr0 f).g.co ha⟩
  obtain ⟨k1, rfl⟩ : ∃ k1, K = k1 + 1 := ⟨K - 1, by have := hi.k1; omega⟩
  have KX : Hid (∀ g, okF s.page s.on g = true → ∃ (j b bt ot ct p : Nat), idxP s.ps (s.pg g) = some j ∧ j < pv.length ∧ a6 = some ⟨b, 0, none⟩ ∧ k1 + 1 ≤ ct ∧ ct ≤ 9223372036854775807 ∧ (s.key (k1 + 1) g).2 ≤ s.T ∧ s.may near false g = decide (near < s.T + 1 - (s.key (k1 + 1) g).2) ∧ Hid (∀ W, Fr NoF w W → W.cell? ⟨b, j * 3, none⟩ = some (.int .u32 (p : Nat)) ∧ W.cell? ⟨b, j * 3 + 1, none⟩ = some (.int .i64 ((s.key (k1 + 1) g).2 : Nat)) ∧ W.cell? ⟨b, j * 3 + 2, none⟩ = some (.slice (some ⟨bt, ot, none⟩) (k1 + 1) ct) ∧ W.cell? ⟨bt, ot + k1, none⟩ = some (.int .i64 ((s.key (k1 + 1) g).1 : Nat)) ∧ b < W.heap.size ∧ bt < W.heap.size)) := fun g hg => by
    obtain ⟨j, a, v, x1, x2, x3, x4, x5, x6⟩ := h.frame hi hg
    obtain ⟨bt, ot, ct, rfl, z1, z2, _, _⟩ := x5.at (i := k1) (by rw [x4.len]; omega)
    obtain ⟨b, c, y0, _, _, _, _, _, _, _⟩ := h.past x2
    rw [e6] at y0
    simp only [Value.slice.injEq] at y0
    refine ⟨j, b, bt, ot, ct, a.p, x1, (List.getElem?_eq_some_iff.1 x2).1, y0.1, by rw [x4.len] at z1; exact z1, by unfold maxLen at z2; omega, by unfold S5.key; rw [x3]; exact x4.lT, by unfold S5.may S5.key; rw [hg]; rfl, fun W f => ?_⟩
    have hw := h.fr0 f
    obtain ⟨b', c', y0', _, _, y1, _, y2, y3, y4⟩ := hw.past x2
    rw [e6] at y0'
    simp only [Value.slice.injEq] at y0'
    obtain rfl : b = b' := by have := y0.1.symm.trans y0'.1; simpa using this
    obtain ⟨bt', ot', ct', ev, _, _, z3, z4⟩ := (x5.keep f).at (i := k1) (by rw [x4.len]; omega)
    simp only [Value.slice.injEq, Option.some.injEq, Addr.mk.injEq] at ev
    obtain ⟨⟨rfl, rfl, _⟩, _, rfl⟩ := ev
    have hg0 : a.ts.getD (k1 + 1 - 1) 0 = a.ts[k1]'(by rw [x4.len]; omega) := by
      rw [List.getD_eq_getElem?_getD, show k1 + 1 - 1 = k1 from by omega, List.getElem?_eq_getElem (by rw [x4.len]; omega)]; rfl
    refine ⟨y2, by unfold S5.key; rw [x3]; exact y3, by rw [x4.len] at y4; exact y4, ?_, y1, z3⟩
    unfold S5.key; rw [x3, hg0]; exact z4
  have hks : ((k1 + 1 : Nat) : Int) - 1 = (k1 : Int) := by omega
  clear h hi e6
  cases all with
  | true =>
    go_enter Try.func42, Try.ntmps42
    go_wp2
    go_loopw [5, 6] (BestRel w s (k1 + 1) near true n) (fun _ i _ => n - (intOf i).toNat)
    case atStart => exact ⟨0, Nat.zero_le _, rfl, rfl, Fr.refl _ _⟩
    case round =>
      obtain ⟨m, hm, rfl, rfl, hf⟩ := hrel
      have HF := Lib.hid hf
      obtain ⟨c0, c1, c2, c4, c5, c6, c8, lp, lg⟩ := KC.out wr hf
      by_cases hlt : m < n
      · obtain ⟨cp, co⟩ := KP.out wr hf m hlt
        have hsz := hf.size
        clear hf
        have hok : okF s.page s.on m = (!decide (s.pg m = 0) && s.on m) := rfl
        by_cases hz : s.pg m = 0
        · rw [hz] at cp
          replace cp : wr.cell? ⟨gb, m, none⟩ = some (.int .u32 0) := cp
          have HS : Hid (s.bestF (k1 + 1) near true (m + 1) = s.bestF (k1 + 1) near true m) := best_skip (by unfold S5.may; rw [hok, hz]; rfl)
          generalize s.on m = z1 at co
          clear hok hz
          go_wp2
          go_roundw
          case rel => exact ⟨m + 1, by omega, by go_num, by rw [HS.out], HF.out⟩
          case measure => first | (simp [intOf]; done) | (simp [intOf]; omega)
        · have b1 : (((s.pg m : Nat) : Int) == 0) = false := by simp; omega
          cases hon : s.on m with
          | false =>
            rw [hon] at co
            have HS : Hid (s.bestF (k1 + 1) near true (m + 1) = s.bestF (k1 + 1) near true m) := best_skip (by unfold S5.may; rw [hok, hon]; simp)
            generalize s.pg m = z1 at *
            clear hok hz hon
            go_wp2
            go_roundw
            case rel => exact ⟨m + 1, by omega, by go_num, by rw [HS.out], HF.out⟩
            case measure => first | (simp [intOf]; done) | (simp [intOf]; omega)
          | true =>
            rw [hon] at co
            have hoktrue : okF s.page s.on m = true := by rw [hok, hon]; simp; exact hz
            obtain ⟨j, b, bt, ot, ct, p, x1, x2, rfl, x4, x5, x6, x7, KW⟩ := KX.out m hoktrue
            obtain ⟨y0, y1, y2, y3, lb, lt⟩ := KW.out wr HF.out
            have HOKM := Lib.hid hoktrue
            have HCA : Hid (∀ W, Fr NoF wr W → Calls Try.prog 45 #[.pointer (some ⟨pb, 0, none⟩), .int .u32 (s.pg m : Nat)] W fun e w' => e = .returned (.int .i64 (j : Nat)) ∧ W = w') := fun W f => by
              have := HOF.out W (HF.out.trans f (fun _ q => q.elim)) (s.pg m)
              rw [x1] at this; exact this
            have hlT : (s.key (k1 + 1) m).2 ≤ s.T := x6
            have HX7 := Lib.hid x7
            generalize htm : (s.key (k1 + 1) m).1 = tm at *
            generalize hlm : (s.key (k1 + 1) m).2 = lm at *
            have HTM := Lib.hid htm
            have HLM := Lib.hid hlm
            generalize s.pg m = z1 at *
            clear hok hz hon htm hlm x1 x6 x7 hoktrue
            go_wp2
            have KS : Hid (∀ W, Fr NoF wr W → W.cell? ⟨pb, 6, none⟩ = some (.slice (some ⟨b, 0, none⟩) pv.length k6) ∧ W.cell? ⟨pb, 4, none⟩ = some (.slice (some ⟨gb, 0, none⟩) n n) ∧ W.cell? ⟨gb, m, none⟩ = some (.int .u32 (z1 : Nat)) ∧ W.cell? ⟨b, j * 3, none⟩ = some (.int .u32 (p : Nat)) ∧ W.cell? ⟨b, j * 3 + 1, none⟩ = some (.int .i64 (lm : Nat)) ∧ W.cell? ⟨b, j * 3 + 2, none⟩ = some (.slice (some ⟨bt, ot, none⟩) (k1 + 1) ct)) := fun W f => ⟨(f.cell lp id).trans c6, (f.cell lp id).trans c4, (f.cell lg id).trans cp, (f.cell lb id).trans y0, (f.cell lb id).trans y1, (f.cell lb id).trans y2⟩
            go_region_held3 (fun w' => w'.cell? ⟨pb, 6, none⟩ = some (.slice (some ⟨b, 0, none⟩) pv.length k6) ∧ w'.cell? ⟨pb, 4, none⟩ = some (.slice (some ⟨gb, 0, none⟩) n n) ∧ w'.cell? ⟨gb, m, none⟩ = some (.int .u32 (z1 : Nat)) ∧ w'.cell? ⟨b, j * 3, none⟩ = some (.int .u32 (p : Nat)) ∧ w'.cell? ⟨b, j * 3 + 1, none⟩ = some (.int .i64 (lm : Nat)) ∧ w'.cell? ⟨b, j * 3 + 2, none⟩ = some (.slice (some ⟨bt, ot, none⟩) (k1 + 1) ct))
              (exact KS.out _ (by repeat (first | exact Fr.refl NoF _ | apply Fr.drew | apply Fr.drewN | apply Fr.alloc | refine Fr.setCell ?_ (.inr (Nat.le_refl _)) _)))
              (first | (go_at_call 45; (with_reducible refine (HCA.out _ (by repeat (first | exact Fr.refl NoF _ | apply Fr.drew | apply Fr.drewN | apply Fr.alloc))).mono ?_); rintro e w3 ⟨rfl, rfl⟩))
            all_goals
              obtain ⟨wA, hA⟩ : ∃ x, x = (wr.alloc (.cells #[.int .u32 (p : Nat), .int .i64 (lm : Nat), .slice (some ⟨bt, ot, none⟩) (k1 + 1) ct] 97)).drew := ⟨_, rfl⟩
              rw [← hA]
              have fA : Fr NoF wr wA := by rw [hA]; exact ((Fr.refl NoF wr).alloc _).drew
              have bA : Blk wA wr.heap.size 3 (fun i => (#[.int .u32 (p : Nat), .int .i64 (lm : Nat), .slice (some ⟨bt, ot, none⟩) (k1 + 1) ct] : Array Value).getD i (.int .i64 0)) := by
                rw [hA]
                refine (Blk.new wr _ 97 3 _ _ rfl rfl (fun i hi => ?_)).drew
                match i, hi with
                | 0, _ => rfl
                | 1, _ => rfl
                | 2, _ => rfl
              have HFA := Lib.hid (HF.out.trans fA (fun _ q => q.elim))
              have HBA := Lib.hid bA
              obtain ⟨xb, hxb⟩ : ∃ x, x = wr.heap.size := ⟨_, rfl⟩
              rw [← hxb] at HBA ⊢
              have HXB := Lib.hid hxb
              clear hxb
              have a1 : wA.cell? ⟨xb, 1, none⟩ = some (.int .i64 (lm : Nat)) := HBA.out.cell (i := 1) (by omega)
              have lxb : xb < wA.heap.size := HBA.out.lt
              clear hA fA bA c0 c1 c2 c4 c5 c6 c8 lp lg cp co y0 y1 y2 y3 lb lt b1
              obtain ⟨c0, c1, c2, c4, c5, c6, c8, lp, lg⟩ := KC.out wA HFA.out
              have HMAY : Hid (s.may near true m = true) := by unfold Hid S5.may; rw [HOKM.out]; rfl
              go_wp2
              go_quiet (fail)
              rename_i nq
              have fq : Fr NoF wA (wA.drewN nq) := (Fr.refl NoF wA).drewN nq
              have HFQ := Lib.hid (HFA.out.trans fq (fun _ q => q.elim))
              have HBQ := Lib.hid (HBA.out.fr fq id)
              clear a1 lxb c0 c1 c2 c4 c5 c6 c8 lp lg HFA HBA
              generalize wA.drewN nq = wQ at *
              clear fq
              have HFA := HFQ
              have HBA := HBQ
              clear HFQ HBQ
              have a1 : wQ.cell? ⟨xb, 1, none⟩ = some (.int .i64 (lm : Nat)) := HBA.out.cell (i := 1) (by omega)
              have lxb : xb < wQ.heap.size := HBA.out.lt
              obtain ⟨c0, c1, c2, c4, c5, c6, c8, lp, lg⟩ := KC.out wQ HFA.out
              cases eb : s.bestF (k1 + 1) near true m with
              | none =>
                have HS : Hid (s.bestF (k1 + 1) near true (m + 1) = some m) := best_first HMAY.out eb
                have HEB := Lib.hid eb
                rw [show fstI none = -1 from rfl]
                clear eb
                go_wp2
                go_roundw
                case rel => exact ⟨m + 1, by omega, by go_num, by rw [HS.out]; rfl, by repeat (first | exact HFA.out | apply Fr.drewN | apply Fr.drew)⟩
                case measure => first | (simp [intOf]; done) | (simp [intOf]; omega)
              | some o =>
                have HNX := Lib.hid (best_next HMAY.out eb)
                obtain ⟨hom, hmo⟩ := best_is s (k1 + 1) near true m o eb
                obtain ⟨jo, bo, bto, oto, cto, po, x1, x2o, xe, x4o, x5o, x6, x7, KWo⟩ := KX.out o (may_okF hmo)
                obtain rfl : b = bo := by simpa using xe
                have HCB : Hid (∀ W, Fr NoF wQ W → Calls Try.prog 45 #[.pointer (some ⟨pb, 0, none⟩), .int .u32 (s.pg o : Nat)] W fun e w' => e = .returned (.int .i64 (jo : Nat)) ∧ W = w') := fun W f => by
                  have := HOF.out W (HFA.out.trans f (fun _ q => q.elim)) (s.pg o)
                  rw [x1] at this; exact this
                obtain ⟨y0, y1, y2, y3, lb, lt⟩ := KWo.out wQ HFA.out
                obtain ⟨cp, co⟩ := KP.out wQ HFA.out o (by omega)
                have hon : o < n := by omega
                generalize hto : (s.key (k1 + 1) o).1 = tO at *
                generalize hlo : (s.key (k1 + 1) o).2 = lo at *
                have HTO := Lib.hid hto
                have HLO := Lib.hid hlo
                generalize s.pg o = zo at *
                rw [show fstI (some o) = (o : Int) from rfl]
                clear eb hto hlo xe x1 x6 x7 hmo co
                go_wp2
                have KSo : Hid (∀ W, Fr NoF wQ W → W.cell? ⟨pb, 6, none⟩ = some (.slice (some ⟨b, 0, none⟩) pv.length k6) ∧ W.cell? ⟨pb, 4, none⟩ = some (.slice (some ⟨gb, 0, none⟩) n n) ∧ W.cell? ⟨gb, o, none⟩ = some (.int .u32 (zo : Nat)) ∧ W.cell? ⟨b, jo * 3, none⟩ = some (.int .u32 (po : Nat)) ∧ W.cell? ⟨b, jo * 3 + 1, none⟩ = some (.int .i64 (lo : Nat)) ∧ W.cell? ⟨b, jo * 3 + 2, none⟩ = some (.slice (some ⟨bto, oto, none⟩) (k1 + 1) cto)) := fun W f => ⟨(f.cell lp id).trans c6, (f.cell lp id).trans c4, (f.cell lg id).trans cp, (f.cell lb id).trans y0, (f.cell lb id).trans y1, (f.cell lb id).trans y2⟩
                go_region_held3 (fun w' => w'.cell? ⟨pb, 6, none⟩ = some (.slice (some ⟨b, 0, none⟩) pv.length k6) ∧ w'.cell? ⟨pb, 4, none⟩ = some (.slice (some ⟨gb, 0, none⟩) n n) ∧ w'.cell? ⟨gb, o, none⟩ = some (.int .u32 (zo : Nat)) ∧ w'.cell? ⟨b, jo * 3, none⟩ = some (.int .u32 (po : Nat)) ∧ w'.cell? ⟨b, jo * 3 + 1, none⟩ = some (.int .i64 (lo : Nat)) ∧ w'.cell? ⟨b, jo * 3 + 2, none⟩ = some (.slice (some ⟨bto, oto, none⟩) (k1 + 1) cto))
                  (exact KSo.out _ (by repeat (first | exact Fr.refl NoF _ | apply Fr.drew | apply Fr.drewN | apply Fr.alloc | refine Fr.setCell ?_ (.inr (Nat.le_refl _)) _)))
                  (first | (go_at_call 45; (with_reducible refine (HCB.out _ (by repeat (first | exact Fr.refl NoF _ | apply Fr.drew | apply Fr.drewN | apply Fr.alloc))).mono ?_); rintro e w3 ⟨rfl, rfl⟩))
                all_goals
                  obtain ⟨wB, hB⟩ : ∃ x, x = (wQ.alloc (.cells #[.int .u32 (po : Nat), .int .i64 (lo : Nat), .slice (some ⟨bto, oto, none⟩) (k1 + 1) cto] 97)).drew := ⟨_, rfl⟩
                  rw [← hB]
                  have fB : Fr NoF wQ wB := by rw [hB]; exact ((Fr.refl NoF wQ).alloc _).drew
                  have bB : Blk wB wQ.heap.size 3 (fun i => (#[.int .u32 (po : Nat), .int .i64 (lo : Nat), .slice (some ⟨bto, oto, none⟩) (k1 + 1) cto] : Array Value).getD i (.int .i64 0)) := by
                    rw [hB]
                    refine (Blk.new wQ _ 97 3 _ _ rfl rfl (fun i hi => ?_)).drew
                    match i, hi with
                    | 0, _ => rfl
                    | 1, _ => rfl
                    | 2, _ => rfl
                  have HFB := Lib.hid (HFA.out.trans fB (fun _ q => q.elim))
                  have HBB := Lib.hid bB
                  have HBX := Lib.hid (HBA.out.fr fB id)
                  obtain ⟨yb, hyb⟩ : ∃ x, x = wQ.heap.size := ⟨_, rfl⟩
                  rw [← hyb] at HBB ⊢
                  have HYB := Lib.hid hyb
                  clear hyb
                  have xa1 : wB.cell? ⟨xb, 1, none⟩ = some (.int .i64 (lm : Nat)) := HBX.out.cell (i := 1) (by omega)
                  have xa2 : wB.cell? ⟨xb, 2, none⟩ = some (.slice (some ⟨bt, ot, none⟩) (k1 + 1) ct) := HBX.out.cell (i := 2) (by omega)
                  have ya1 : wB.cell? ⟨yb, 1, none⟩ = some (.int .i64 (lo : Nat)) := HBB.out.cell (i := 1) (by omega)
                  have ya2 : wB.cell? ⟨yb, 2, none⟩ = some (.slice (some ⟨bto, oto, none⟩) (k1 + 1) cto) := HBB.out.cell (i := 2) (by omega)
                  have lxb2 : xb < wB.heap.size := HBX.out.lt
                  have lyb2 : yb < wB.heap.size := HBB.out.lt
                  clear hB fB bB c0 c1 c2 c4 c5 c6 c8 lp lg cp y0 y1 y2 y3 lb lt a1 lxb
                  obtain ⟨c0, c1, c2, c4, c5, c6, c8, lp, lg⟩ := KC.out wB HFB.out
                  obtain ⟨_, _, _, tm3, _, ltm⟩ := KW.out wB HFB.out
                  obtain ⟨_, _, _, to3, _, lto⟩ := KWo.out wB HFB.out
                  have hcs : (s.worse (k1 + 1) m o = true ∧ (tO < tm ∨ (¬ tO < tm ∧ tm = tO ∧ lo < lm))) ∨ (s.worse (k1 + 1) m o = false ∧ ((¬ tO < tm ∧ ¬ tm = tO) ∨ (¬ tO < tm ∧ tm = tO ∧ ¬ lo < lm))) := by
                    unfold S5.worse
                    rw [HTM.out, HTO.out, HLM.out, HLO.out]
                    simp only [Bool.or_eq_true, Bool.and_eq_true, decide_eq_true_eq, Bool.or_eq_false_iff, Bool.and_eq_false_iff, decide_eq_false_iff_not]
                    omega
                  rcases hcs with ⟨hw, hg | ⟨hg1, hg2, hg3⟩⟩ | ⟨hw, ⟨hg1, hg2⟩ | ⟨hg1, hg2, hg3⟩⟩
                  · have HW := Lib.hid hw
                    have g1 : decide (tO < tm) = true := by simpa using hg
                    clear hw hg
                    go_wp2
                    go_quiet (fail)
                    go_wp2
                    go_roundw
                    case rel => exact ⟨m + 1, by omega, by go_num, by rw [HNX.out, HW.out]; rfl, by repeat (first | exact HFB.out | apply Fr.drewN | apply Fr.drew)⟩
                    case measure => first | (simp [intOf]; done) | (simp [intOf]; omega)
                  · have HW := Lib.hid hw
                    have g1 : decide (tO < tm) = false := by simpa using hg1
                    subst hg2
                    have g2 : decide (lo < lm) = true := by simpa using hg3
                    clear hw hg1 hg3
                    go_wp2
                    go_quiet (fail)
                    go_wp2
                    go_roundw
                    case rel => exact ⟨m + 1, by omega, by go_num, by rw [HNX.out, HW.out]; rfl, by repeat (first | exact HFB.out | apply Fr.drewN | apply Fr.drew)⟩
                    case measure => first | (simp [intOf]; done) | (simp [intOf]; omega)
                  · have HW := Lib.hid hw
                    have g1 : decide (tO < tm) = false := by simpa using hg1
                    have g2 : ((tm : Int) == (tO : Int)) = false := by simp; omega
                    clear hw hg1 hg2
                    go_wp2
                    go_quiet (fail)
                    go_wp2
                    go_roundw
                    case rel => exact ⟨m + 1, by omega, by go_num, by rw [HNX.out, HW.out]; rfl, by repeat (first | exact HFB.out | apply Fr.drewN | apply Fr.drew)⟩
                    case measure => first | (simp [intOf]; done) | (simp [intOf]; omega)
                  · have HW := Lib.hid hw
                    have g1 : decide (tO < tm) = false := by simpa using hg1
                    subst hg2
                    have g2 : decide (lo < lm) = false := by simpa using hg3
                    clear hw hg1 hg3
                    go_wp2
                    go_quiet (fail)
                    go_wp2
                    go_roundw
                    case rel => exact ⟨m + 1, by omega, by go_num, by rw [HNX.out, HW.out]; rfl, by repeat (first | exact HFB.out | apply Fr.drewN | apply Fr.drew)⟩
                    case measure => first | (simp [intOf]; done) | (simp [intOf]; omega)
      · obtain rfl : m = n := by omega
        clear hf
        go_wp2
        go_returns
        exact ⟨rfl, HF.out⟩
  | false =>
    go_enter Try.func42, Try.ntmps42
    go_wp2
    go_loopw [5, 6] (BestRel w s (k1 + 1) near false n) (fun _ i _ => n - (intOf i).toNat)
    case atStart => exact ⟨0, Nat.zero_le _, rfl, rfl, Fr.refl _ _⟩
    case round =>
      obtain ⟨m, hm, rfl, rfl, hf⟩ := hrel
      have HF := Lib.hid hf
      obtain ⟨c0, c1, c2, c4, c5, c6, c8, lp, lg⟩ := KC.out wr hf
      by_cases hlt : m < n
      · obtain ⟨cp, co⟩ := KP.out wr hf m hlt
        have hsz := hf.size
        clear hf
        have hok : okF s.page s.on m = (!decide (s.pg m = 0) && s.on m) := rfl
        by_cases hz : s.pg m = 0
        · rw [hz] at cp
          replace cp : wr.cell? ⟨gb, m, none⟩ = some (.int .u32 0) := cp
          have HS : Hid (s.bestF (k1 + 1) near false (m + 1) = s.bestF (k1 + 1) near false m) := best_skip (by unfold S5.may; rw [hok, hz]; rfl)
          generalize s.on m = z1 at co
          clear hok hz
          go_wp2
          go_roundw
          case rel => exact ⟨m + 1, by omega, by go_num, by rw [HS.out], HF.out⟩
          case measure => first | (simp [intOf]; done) | (simp [intOf]; omega)
        · have b1 : (((s.pg m : Nat) : Int) == 0) = false := by simp; omega
          cases hon : s.on m with
          | false =>
            rw [hon] at co
            have HS : Hid (s.bestF (k1 + 1) near false (m + 1) = s.bestF (k1 + 1) near false m) := best_skip (by unfold S5.may; rw [hok, hon]; simp)
            generalize s.pg m = z1 at *
            clear hok hz hon
            go_wp2
            go_roundw
            case rel => exact ⟨m + 1, by omega, by go_num, by rw [HS.out], HF.out⟩
            case measure => first | (simp [intOf]; done) | (simp [intOf]; omega)
          | true =>
            rw [hon] at co
            have hoktrue : okF s.page s.on m = true := by rw [hok, hon]; simp; exact hz
            obtain ⟨j, b, bt, ot, ct, p, x1, x2, rfl, x4, x5, x6, x7, KW⟩ := KX.out m hoktrue
            obtain ⟨y0, y1, y2, y3, lb, lt⟩ := KW.out wr HF.out
            have HOKM := Lib.hid hoktrue
            have HCA : Hid (∀ W, Fr NoF wr W → Calls Try.prog 45 #[.pointer (some ⟨pb, 0, none⟩), .int .u32 (s.pg m : Nat)] W fun e w' => e = .returned (.int .i64 (j : Nat)) ∧ W = w') := fun W f => by
              have := HOF.out W (HF.out.trans f (fun _ q => q.elim)) (s.pg m)
              rw [x1] at this; exact this
            have hlT : (s.key (k1 + 1) m).2 ≤ s.T := x6
            have HX7 := Lib.hid x7
            generalize htm : (s.key (k1 + 1) m).1 = tm at *
            generalize hlm : (s.key (k1 + 1) m).2 = lm at *
            have HTM := Lib.hid htm
            have HLM := Lib.hid hlm
            generalize s.pg m = z1 at *
            clear hok hz hon htm hlm x1 x6 x7 hoktrue
            go_wp2
            have KS : Hid (∀ W, Fr NoF wr W → W.cell? ⟨pb, 6, none⟩ = some (.slice (some ⟨b, 0, none⟩) pv.length k6) ∧ W.cell? ⟨pb, 4, none⟩ = some (.slice (some ⟨gb, 0, none⟩) n n) ∧ W.cell? ⟨gb, m, none⟩ = some (.int .u32 (z1 : Nat)) ∧ W.cell? ⟨b, j * 3, none⟩ = some (.int .u32 (p : Nat)) ∧ W.cell? ⟨b, j * 3 + 1, none⟩ = some (.int .i64 (lm : Nat)) ∧ W.cell? ⟨b, j * 3 + 2, none⟩ = some (.slice (some ⟨bt, ot, none⟩) (k1 + 1) ct)) := fun W f => ⟨(f.cell lp id).trans c6, (f.cell lp id).trans c4, (f.cell lg id).trans cp, (f.cell lb id).trans y0, (f.cell lb id).trans y1, (f.cell lb id).trans y2⟩
            go_region_held3 (fun w' => w'.cell? ⟨pb, 6, none⟩ = some (.slice (some ⟨b, 0, none⟩) pv.length k6) ∧ w'.cell? ⟨pb, 4, none⟩ = some (.slice (some ⟨gb, 0, none⟩) n n) ∧ w'.cell? ⟨gb, m, none⟩ = some (.int .u32 (z1 : Nat)) ∧ w'.cell? ⟨b, j * 3, none⟩ = some (.int .u32 (p : Nat)) ∧ w'.cell? ⟨b, j * 3 + 1, none⟩ = some (.int .i64 (lm : Nat)) ∧ w'.cell? ⟨b, j * 3 + 2, none⟩ = some (.slice (some ⟨bt, ot, none⟩) (k1 + 1) ct))
              (exact KS.out _ (by repeat (first | exact Fr.refl NoF _ | apply Fr.drew | apply Fr.drewN | apply Fr.alloc | refine Fr.setCell ?_ (.inr (Nat.le_refl _)) _)))
              (first | (go_at_call 45; (with_reducible refine (HCA.out _ (by repeat (first | exact Fr.refl NoF _ | apply Fr.drew | apply Fr.drewN | apply Fr.alloc))).mono ?_); rintro e w3 ⟨rfl, rfl⟩))
            all_goals
              obtain ⟨wA, hA⟩ : ∃ x, x = (wr.alloc (.cells #[.int .u32 (p : Nat), .int .i64 (lm : Nat), .slice (some ⟨bt, ot, none⟩) (k1 + 1) ct] 97)).drew := ⟨_, rfl⟩
              rw [← hA]
              have fA : Fr NoF wr wA := by rw [hA]; exact ((Fr.refl NoF wr).alloc _).drew
              have bA : Blk wA wr.heap.size 3 (fun i => (#[.int .u32 (p : Nat), .int .i64 (lm : Nat), .slice (some ⟨bt, ot, none⟩) (k1 + 1) ct] : Array Value).getD i (.int .i64 0)) := by
                rw [hA]
                refine (Blk.new wr _ 97 3 _ _ rfl rfl (fun i hi => ?_)).drew
                match i, hi with
                | 0, _ => rfl
                | 1, _ => rfl
                | 2, _ => rfl
              have HFA := Lib.hid (HF.out.trans fA (fun _ q => q.elim))
              have HBA := Lib.hid bA
              obtain ⟨xb, hxb⟩ : ∃ x, x = wr.heap.size := ⟨_, rfl⟩
              rw [← hxb] at HBA ⊢
              have HXB := Lib.hid hxb
              clear hxb
              have a1 : wA.cell? ⟨xb, 1, none⟩ = some (.int .i64 (lm : Nat)) := HBA.out.cell (i := 1) (by omega)
              have lxb : xb < wA.heap.size := HBA.out.lt
              clear hA fA bA c0 c1 c2 c4 c5 c6 c8 lp lg cp co y0 y1 y2 y3 lb lt b1
              obtain ⟨c0, c1, c2, c4, c5, c6, c8, lp, lg⟩ := KC.out wA HFA.out
              have hmay : s.may near false m = decide (near < s.T + 1 - lm) := HX7.out
              by_cases hnr : near < s.T + 1 - lm
              · have HMAY : Hid (s.may near false m = true) := by unfold Hid; rw [hmay]; simpa using hnr
                clear hmay
                have hgt : decide ((s.T : Int) + 1 - (lm : Int) ≤ (near : Int)) = false := by simp; omega
                clear hnr
                go_wp2
                go_quiet (fail)
                rename_i nq
                have fq : Fr NoF wA (wA.drewN nq) := (Fr.refl NoF wA).drewN nq
                have HFQ := Lib.hid (HFA.out.trans fq (fun _ q => q.elim))
                have HBQ := Lib.hid (HBA.out.fr fq id)
                clear a1 lxb c0 c1 c2 c4 c5 c6 c8 lp lg HFA HBA
                generalize wA.drewN nq = wQ at *
                clear fq
                have HFA := HFQ
                have HBA := HBQ
                clear HFQ HBQ
                have a1 : wQ.cell? ⟨xb, 1, none⟩ = some (.int .i64 (lm : Nat)) := HBA.out.cell (i := 1) (by omega)
                have lxb : xb < wQ.heap.size := HBA.out.lt
                obtain ⟨c0, c1, c2, c4, c5, c6, c8, lp, lg⟩ := KC.out wQ HFA.out
                cases eb : s.bestF (k1 + 1) near false m with
                | none =>
                  have HS : Hid (s.bestF (k1 + 1) near false (m + 1) = some m) := best_first HMAY.out eb
                  have HEB := Lib.hid eb
                  rw [show fstI none = -1 from rfl]
                  clear eb
                  go_wp2
                  go_roundw
                  case rel => exact ⟨m + 1, by omega, by go_num, by rw [HS.out]; rfl, by repeat (first | exact HFA.out | apply Fr.drewN | apply Fr.drew)⟩
                  case measure => first | (simp [intOf]; done) | (simp [intOf]; omega)
                | some o =>
                  have HNX := Lib.hid (best_next HMAY.out eb)
                  obtain ⟨hom, hmo⟩ := best_is s (k1 + 1) near false m o eb
                  obtain ⟨jo, bo, bto, oto, cto, po, x1, x2o, xe, x4o, x5o, x6, x7, KWo⟩ := KX.out o (may_okF hmo)
                  obtain rfl : b = bo := by simpa using xe
                  have HCB : Hid (∀ W, Fr NoF wQ W → Calls Try.prog 45 #[.pointer (some ⟨pb, 0, none⟩), .int .u32 (s.pg o : Nat)] W fun e w' => e = .returned (.int .i64 (jo : Nat)) ∧ W = w') := fun W f => by
                    have := HOF.out W (HFA.out.trans f (fun _ q => q.elim)) (s.pg o)
                    rw [x1] at this; exact this
                  obtain ⟨y0, y1, y2, y3, lb, lt⟩ := KWo.out wQ HFA.out
                  obtain ⟨cp, co⟩ := KP.out wQ HFA.out o (by omega)
                  have hon : o < n := by omega
                  generalize hto : (s.key (k1 + 1) o).1 = tO at *
                  generalize hlo : (s.key (k1 + 1) o).2 = lo at *
                  have HTO := Lib.hid hto
                  have HLO := Lib.hid hlo
                  generalize s.pg o = zo at *
                  rw [show fstI (some o) = (o : Int) from rfl]
                  clear eb hto hlo xe x1 x6 x7 hmo co
                  go_wp2
                  have KSo : Hid (∀ W, Fr NoF wQ W → W.cell? ⟨pb, 6, none⟩ = some (.slice (some ⟨b, 0, none⟩) pv.length k6) ∧ W.cell? ⟨pb, 4, none⟩ = some (.slice (some ⟨gb, 0, none⟩) n n) ∧ W.cell? ⟨gb, o, none⟩ = some (.int .u32 (zo : Nat)) ∧ W.cell? ⟨b, jo * 3, none⟩ = some (.int .u32 (po : Nat)) ∧ W.cell? ⟨b, jo * 3 + 1, none⟩ = some (.int .i64 (lo : Nat)) ∧ W.cell? ⟨b, jo * 3 + 2, none⟩ = some (.slice (some ⟨bto, oto, none⟩) (k1 + 1) cto)) := fun W f => ⟨(f.cell lp id).trans c6, (f.cell lp id).trans c4, (f.cell lg id).trans cp, (f.cell lb id).trans y0, (f.cell lb id).trans y1, (f.cell lb id).trans y2⟩
                  go_region_held3 (fun w' => w'.cell? ⟨pb, 6, none⟩ = some (.slice (some ⟨b, 0, none⟩) pv.length k6) ∧ w'.cell? ⟨pb, 4, none⟩ = some (.slice (some ⟨gb, 0, none⟩) n n) ∧ w'.cell? ⟨gb, o, none⟩ = some (.int .u32 (zo : Nat)) ∧ w'.cell? ⟨b, jo * 3, none⟩ = some (.int .u32 (po : Nat)) ∧ w'.cell? ⟨b, jo * 3 + 1, none⟩ = some (.int .i64 (lo : Nat)) ∧ w'.cell? ⟨b, jo * 3 + 2, none⟩ = some (.slice (some ⟨bto, oto, none⟩) (k1 + 1) cto))
                    (exact KSo.out _ (by repeat (first | exact Fr.refl NoF _ | apply Fr.drew | apply Fr.drewN | apply Fr.alloc | refine Fr.setCell ?_ (.inr (Nat.le_refl _)) _)))
                    (first | (go_at_call 45; (with_reducible refine (HCB.out _ (by repeat (first | exact Fr.refl NoF _ | apply Fr.drew | apply Fr.drewN | apply Fr.alloc))).mono ?_); rintro e w3 ⟨rfl, rfl⟩))
                  all_goals
                    obtain ⟨wB, hB⟩ : ∃ x, x = (wQ.alloc (.cells #[.int .u32 (po : Nat), .int .i64 (lo : Nat), .slice (some ⟨bto, oto, none⟩) (k1 + 1) cto] 97)).drew := ⟨_, rfl⟩
                    rw [← hB]
                    have fB : Fr NoF wQ wB := by rw [hB]; exact ((Fr.refl NoF wQ).alloc _).drew
                    have bB : Blk wB wQ.heap.size 3 (fun i => (#[.int .u32 (po : Nat), .int .i64 (lo : Nat), .slice (some ⟨bto, oto, none⟩) (k1 + 1) cto] : Array Value).getD i (.int .i64 0)) := by
                      rw [hB]
                      refine (Blk.new wQ _ 97 3 _ _ rfl rfl (fun i hi => ?_)).drew
                      match i, hi with
                      | 0, _ => rfl
                      | 1, _ => rfl
                      | 2, _ => rfl
                    have HFB := Lib.hid (HFA.out.trans fB (fun _ q => q.elim))
                    have HBB := Lib.hid bB
                    have HBX := Lib.hid (HBA.out.fr fB id)
                    obtain ⟨yb, hyb⟩ : ∃ x, x = wQ.heap.size := ⟨_, rfl⟩
                    rw [← hyb] at HBB ⊢
                    have HYB := Lib.hid hyb
                    clear hyb
                    have xa1 : wB.cell? ⟨xb, 1, none⟩ = some (.int .i64 (lm : Nat)) := HBX.out.cell (i := 1) (by omega)
                    have xa2 : wB.cell? ⟨xb, 2, none⟩ = some (.slice (some ⟨bt, ot, none⟩) (k1 + 1) ct) := HBX.out.cell (i := 2) (by omega)
                    have ya1 : wB.cell? ⟨yb, 1, none⟩ = some (.int .i64 (lo : Nat)) := HBB.out.cell (i := 1) (by omega)
                    have ya2 : wB.cell? ⟨yb, 2, none⟩ = some (.slice (some ⟨bto, oto, none⟩) (k1 + 1) cto) := HBB.out.cell (i := 2) (by omega)
                    have lxb2 : xb < wB.heap.size := HBX.out.lt
                    have lyb2 : yb < wB.heap.size := HBB.out.lt
                    clear hB fB bB c0 c1 c2 c4 c5 c6 c8 lp lg cp y0 y1 y2 y3 lb lt a1 lxb
                    obtain ⟨c0, c1, c2, c4, c5, c6, c8, lp, lg⟩ := KC.out wB HFB.out
                    obtain ⟨_, _, _, tm3, _, ltm⟩ := KW.out wB HFB.out
                    obtain ⟨_, _, _, to3, _, lto⟩ := KWo.out wB HFB.out
                    have hcs : (s.worse (k1 + 1) m o = true ∧ (tO < tm ∨ (¬ tO < tm ∧ tm = tO ∧ lo < lm))) ∨ (s.worse (k1 + 1) m o = false ∧ ((¬ tO < tm ∧ ¬ tm = tO) ∨ (¬ tO < tm ∧ tm = tO ∧ ¬ lo < lm))) := by
                      unfold S5.worse
                      rw [HTM.out, HTO.out, HLM.out, HLO.out]
                      simp only [Bool.or_eq_true, Bool.and_eq_true, decide_eq_true_eq, Bool.or_eq_false_iff, Bool.and_eq_false_iff, decide_eq_false_iff_not]
                      omega
                    rcases hcs with ⟨hw, hg | ⟨hg1, hg2, hg3⟩⟩ | ⟨hw, ⟨hg1, hg2⟩ | ⟨hg1, hg2, hg3⟩⟩
                    · have HW := Lib.hid hw
                      have g1 : decide (tO < tm) = true := by simpa using hg
                      clear hw hg
                      go_wp2
                      go_quiet (fail)
                      go_wp2
                      go_roundw
                      case rel => exact ⟨m + 1, by omega, by go_num, by rw [HNX.out, HW.out]; rfl, by repeat (first | exact HFB.out | apply Fr.drewN | apply Fr.drew)⟩
                      case measure => first | (simp [intOf]; done) | (simp [intOf]; omega)
                    · have HW := Lib.hid hw
                      have g1 : decide (tO < tm) = false := by simpa using hg1
                      subst hg2
                      have g2 : decide (lo < lm) = true := by simpa using hg3
                      clear hw hg1 hg3
                      go_wp2
                      go_quiet (fail)
                      go_wp2
                      go_roundw
                      case rel => exact ⟨m + 1, by omega, by go_num, by rw [HNX.out, HW.out]; rfl, by repeat (first | exact HFB.out | apply Fr.drewN | apply Fr.drew)⟩
                      case measure => first | (simp [intOf]; done) | (simp [intOf]; omega)
                    · have HW := Lib.hid hw
                      have g1 : decide (tO < tm) = false := by simpa using hg1
                      have g2 : ((tm : Int) == (tO : Int)) = false := by simp; omega
                      clear hw hg1 hg2
                      go_wp2
                      go_quiet (fail)
                      go_wp2
                      go_roundw
                      case rel => exact ⟨m + 1, by omega, by go_num, by rw [HNX.out, HW.out]; rfl, by repeat (first | exact HFB.out | apply Fr.drewN | apply Fr.drew)⟩
                      case measure => first | (simp [intOf]; done) | (simp [intOf]; omega)
                    · have HW := Lib.hid hw
                      have g1 : decide (tO < tm) = false := by simpa using hg1
                      subst hg2
                      have g2 : decide (lo < lm) = false := by simpa using hg3
                      clear hw hg1 hg3
                      go_wp2
                      go_quiet (fail)
                      go_wp2
                      go_roundw
                      case rel => exact ⟨m + 1, by omega, by go_num, by rw [HNX.out, HW.out]; rfl, by repeat (first | exact HFB.out | apply Fr.drewN | apply Fr.drew)⟩
                      case measure => first | (simp [intOf]; done) | (simp [intOf]; omega)
              · have HS : Hid (s.bestF (k1 + 1) near false (m + 1) = s.bestF (k1 + 1) near false m) := best_skip (by rw [hmay]; simpa using hnr)
                clear hmay
                have hgt : decide ((s.T : Int) + 1 - (lm : Int) ≤ (near : Int)) = true := by simp; omega
                clear hnr
                go_wp2
                go_quiet (fail)
                go_wp2
                go_roundw
                case rel => exact ⟨m + 1, by omega, by go_num, by rw [HS.out], by repeat (first | exact HFA.out | apply Fr.drewN | apply Fr.drew)⟩
                case measure => first | (simp [intOf]; done) | (simp [intOf]; omega)
      · obtain rfl : m = n := by omega
        clear hf
        go_wp2
        go_returns
        exact ⟨rfl, HF.out⟩
end
end Go.Proofs.Ytbnckhkamebibaa
namespace Go.Proofs.Ytbnckhkamebibaa
open Go.RowKit
set_option linter.unusedVariables false

section
variable {w w' w0 w2 : World} {pb gb ob n K near kept : Nat} {hc hc' : Nat → Value} {s s' : S5} {pv pv' : List (Pa × Value)} {F0 D0 : Nat → Prop}
set_option maxHeartbeats 2000000 in
theorem s5_remove (h : M5 w pb gb ob n K near kept hc s pv) (hi : Inv5 K kept n s) (hT : s.T < 100000) {a : Nat} (ha : a < n) : Calls Try.prog 25 #[.pointer (some ⟨pb, 0, none⟩), .int .i64 a] w fun e w' => e = .returned (.tuple #[]) ∧ Res5 w pb gb ob n K near kept hc s pv (s.remove a) w' := by
  have hpl : pv.length < 100000 := by rw [← h.pl]; have := hi.len; omega
  have HF := Lib.hid (s5_forget h hpl hi.one (s.pg a))
  have c4 := h.g.c 4 (by omega) h.c4
  have cp : w.cell? ⟨gb, a, none⟩ = some (.int .u32 (s.pg a : Nat)) := h.g.cp ha
  have lg := h.g.pg.lt
  have lp := h.g.hd.lt
  have hn := h.g.hn
  have HS := Lib.hid (show s.remove a = ⟨s.page.set a 0, upd s.on a false, dropP s.ps (s.pg a), s.old, s.T⟩ from rfl)
  generalize s.pg a = x at *
  clear h hi
  go_enter Try.func25, Try.ntmps25
  go_wp2_with fail
  refine HF.out.mono ?_
  rintro e w1 ⟨rfl, hc1, pv1, hp⟩
  have d1 := hp.m.g.d1
  have d2 := hp.m.g.d2
  have d3 := hp.m.g.d3
  have d1' : ¬ gb = pb := fun e => d1 e.symm
  have d2' : ¬ ob = pb := fun e => d2 e.symm
  have d3' : ¬ ob = gb := fun e => d3 e.symm
  have e4 := hp.m.g.c 4 (by omega) hp.m.c4
  have e5 := hp.m.g.c 5 (by omega) hp.m.c5
  have ep := hp.m.g.cp ha
  have eo := hp.m.g.co ha
  have fp := hp.m.g.pg.frozen a
  have fo := hp.m.g.on.frozen a
  have lg1 := hp.m.g.pg.lt
  have lo1 := hp.m.g.on.lt
  have lp1 := hp.m.g.hd.lt
  have KEY : Hid (∀ W, Fr NoF ((w1.setCell ⟨gb, a, none⟩ (.int .u32 0)).setCell ⟨ob, a, none⟩ (.bool false)) W → Res5 w pb gb ob n K near kept hc s pv (s.remove a) W) := by
    intro W f
    rw [HS.out]
    exact ⟨_, _, ((hp.setPage ha 0).setOn a false).fr0 f⟩
  clear hp c4 cp lg lp
  generalize List.getD _ a 0 = y1 at ep
  generalize s.on a = y2 at eo
  go_wp2
  go_region
  all_goals
    go_wp2
    go_returns
    exact ⟨rfl, KEY.out _ ((Fr.refl NoF _).drew)⟩
theorem SlK.drop1 {k : IntKind} {w : World} {b off c : Nat} {l : List Nat} (h : SlK k w (.slice (some ⟨b, off, none⟩) l.length c) l) (h1 : 1 ≤ l.length) :
    (c = 1 → SlK k w (.slice (some ⟨b, off, none⟩) 0 0) (l.drop 1)) ∧ (¬ c = 1 → SlK k w (.slice (some ⟨b, off + 1, none⟩) (l.length - 1) (c - 1)) (l.drop 1)) := by
  have hlt : b < w.heap.size := h.lt b rfl
  obtain ⟨a', c', e, _, hc, hm, _⟩ := id h
  simp only [Value.slice.injEq] at e
  obtain ⟨rfl, _, rfl⟩ := e
  refine ⟨fun e => ?_, fun e => ?_⟩
  · have : l.drop 1 = [] := List.drop_eq_nil_of_le (by omega)
    rw [this]
    exact ⟨_, _, rfl, by simp, by simp, by simp, by unfold maxLen; omega, .inr ⟨b, off, rfl, hlt, by simp⟩⟩
  · obtain ⟨b', off', e2, hs⟩ := SlC.cut h (lo := 1) (hi := l.length) h1 (Nat.le_refl _) rfl (by omega)
    simp only [Option.some.injEq, Addr.mk.injEq] at e2
    obtain ⟨rfl, rfl, _⟩ := e2
    have hl : (l.drop 1).length = l.length - 1 := by simp
    unfold SlK
    rw [hl]
    have e3 : ((l.map fun (x : Nat) => Value.int k (x : Int)).drop (1 * 1)).take ((l.length - 1) * 1) = (l.drop 1).map fun (x : Nat) => Value.int k (x : Int) := by
      rw [← List.map_drop, List.take_of_length_le (by simp)]
    rw [e3] at hs
    exact hs
/-- The eldest of the remembered pages goes. -/
theorem P5.cutOld (h : P5 w0 F0 D0 pb gb ob n K near kept w hc s pv) {b off c : Nat} (e7 : hc 7 = .slice (some ⟨b, off, none⟩) s.old.length c) (h1 : 1 ≤ s.old.length) :
    (c = 1 → P5 w0 F0 D0 pb gb ob n K near kept (w.setCell ⟨pb, 7, none⟩ (.slice (some ⟨b, off, none⟩) 0 0)) (upd hc 7 (.slice (some ⟨b, off, none⟩) 0 0)) ⟨s.page, s.on, s.ps, s.old.drop 1, s.T⟩ pv) ∧
    (¬ c = 1 → P5 w0 F0 D0 pb gb ob n K near kept (w.setCell ⟨pb, 7, none⟩ (.slice (some ⟨b, off + 1, none⟩) (s.old.length - 1) (c - 1))) (upd hc 7 (.slice (some ⟨b, off + 1, none⟩) (s.old.length - 1) (c - 1))) ⟨s.page, s.on, s.ps, s.old.drop 1, s.T⟩ pv) := by
  have hs := (h.m.g.sl 7 .u32 s.old rfl).1
  rw [e7] at hs
  obtain ⟨d1, d2⟩ := SlK.drop1 hs h1
  exact ⟨fun q => h.setOld (d1 q) (fun b' q' => .inr (by rw [e7]; exact q')), fun q => h.setOld (d2 q) (fun b' q' => .inr (by rw [e7]; exact q'))⟩
end
end Go.Proofs.Ytbnckhkamebibaa

/-
  A document's policy in memory, whatever policy: a head of M cells, the frames' pages, the flags, and rows of numbers in cells of the head; what a call of it leaves. No program in sight.
-/
import Derived.Test.YtbnckhkamebibaaK30
namespace Go.Proofs.Ytbnckhkamebibaa
open Go.RowKit
set_option linter.unusedVariables false

abbrev RowsF := Nat → Option (IntKind × List Nat)
/-- The blocks that may change. -/
def FP (pb gb ob : Nat) : Nat → Prop := fun i => i = pb ∨ i = gb ∨ i = ob
/-- All blocks. -/
def DP (pb gb ob : Nat) (hc : Nat → Value) (rows : RowsF) : Nat → Prop := fun i => FP pb gb ob i ∨ ∃ j k l, rows j = some (k, l) ∧ (hc j).ownBlock = some i

structure PG (w : World) (pb M gb ob n : Nat) (hc : Nat → Value) (rows : RowsF) (page : List Nat) (on : Nat → Bool) : Prop where
  hd : Blk w pb M hc
  pg : Blk w gb n (uF page)
  on : Blk w ob n (bF on)
  sl : ∀ i k l, rows i = some (k, l) → SlK k w (hc i) l ∧ ∀ b, (hc i).ownBlock = some b → ¬ b = pb ∧ ¬ b = gb ∧ ¬ b = ob
  d1 : ¬ pb = gb
  d2 : ¬ pb = ob
  d3 : ¬ gb = ob
  pn : page.length = n
  hn : n < 1000

section
variable {w w' w0 : World} {pb M gb ob n : Nat} {hc : Nat → Value} {rows : RowsF} {page : List Nat} {on : Nat → Bool} {D0 : Nat → Prop}
theorem PG.fr (h : PG w pb M gb ob n hc rows page on) {G : Nat → Prop} (f : Fr G w w') (hG : ∀ i, DP pb gb ob hc rows i → ¬ G i) : PG w' pb M gb ob n hc rows page on :=
  ⟨h.hd.fr f (hG _ (.inl (.inl rfl))), h.pg.fr f (hG _ (.inl (.inr (.inl rfl)))), h.on.fr f (hG _ (.inl (.inr (.inr rfl)))), fun i k l e => ⟨(h.sl i k l e).1.fr f (fun b hb => hG b (.inr ⟨i, k, l, e, hb⟩)), (h.sl i k l e).2⟩, h.d1, h.d2, h.d3, h.pn, h.hn⟩
theorem PG.fr0 (h : PG w pb M gb ob n hc rows page on) (f : Fr NoF w w') : PG w' pb M gb ob n hc rows page on := h.fr f (fun _ _ q => q)
theorem PG.lt (h : PG w pb M gb ob n hc rows page on) : ∀ i, DP pb gb ob hc rows i → i < w.heap.size := by
  rintro i ((rfl | rfl | rfl) | ⟨j, k, l, e, hb⟩)
  · exact h.hd.lt
  · exact h.pg.lt
  · exact h.on.lt
  · exact (h.sl j k l e).1.lt i hb
theorem PG.c (h : PG w pb M gb ob n hc rows page on) (i : Nat) (hi : i < M) {v : Value} (e : hc i = v) : w.cell? ⟨pb, i, none⟩ = some v := e ▸ h.hd.cell hi
theorem PG.cp (h : PG w pb M gb ob n hc rows page on) {a : Nat} (ha : a < n) : w.cell? ⟨gb, a, none⟩ = some (.int .u32 (page.getD a 0 : Nat)) := h.pg.cell ha
theorem PG.co (h : PG w pb M gb ob n hc rows page on) {a : Nat} (ha : a < n) : w.cell? ⟨ob, a, none⟩ = some (.bool (on a)) := h.on.cell ha
/-- The slice in a cell of the head. -/
theorem PG.row (h : PG w pb M gb ob n hc rows page on) {i : Nat} {k : IntKind} {l : List Nat} (e : rows i = some (k, l)) : ∃ a c, hc i = .slice a l.length c ∧ l.length ≤ c ∧ c ≤ maxLen ∧ SlK k w (.slice a l.length c) l ∧ ∀ b, (Value.slice a l.length c).ownBlock = some b → ¬ b = pb ∧ ¬ b = gb ∧ ¬ b = ob := by
  obtain ⟨h1, h2⟩ := h.sl i k l e
  obtain ⟨a, c, e1, h3, h4⟩ := h1.shape
  rw [e1] at h1 h2
  exact ⟨a, c, e1, h3, h4, h1, h2⟩
theorem PG.setOn (h : PG w pb M gb ob n hc rows page on) (a : Nat) (x : Bool) : PG (w.setCell ⟨ob, a, none⟩ (.bool x)) pb M gb ob n hc rows page (upd on a x) := by
  have f : Fr (fun i => i = ob) w (w.setCell ⟨ob, a, none⟩ (.bool x)) := (Fr.refl (fun i => i = ob) w).setCell (p := ⟨ob, a, none⟩) (.inl rfl) _
  exact ⟨h.hd.fr f h.d2, h.pg.fr f h.d3, by rw [← bF_set]; exact h.on.set _ _, fun i k l e => ⟨(h.sl i k l e).1.fr f (fun b hb => ((h.sl i k l e).2 b hb).2.2), (h.sl i k l e).2⟩, h.d1, h.d2, h.d3, h.pn, h.hn⟩
theorem PG.setPage (h : PG w pb M gb ob n hc rows page on) {a : Nat} (ha : a < n) (id : Nat) : PG (w.setCell ⟨gb, a, none⟩ (.int .u32 id)) pb M gb ob n hc rows (page.set a id) on := by
  have f : Fr (fun i => i = gb) w (w.setCell ⟨gb, a, none⟩ (.int .u32 id)) := (Fr.refl (fun i => i = gb) w).setCell (p := ⟨gb, a, none⟩) (.inl rfl) _
  exact ⟨h.hd.fr f h.d1, by rw [← uF_set (by rw [h.pn]; exact ha)]; exact h.pg.set _ _, h.on.fr f (fun e => h.d3 e.symm), fun i k l e => ⟨(h.sl i k l e).1.fr f (fun b hb => ((h.sl i k l e).2 b hb).2.1), (h.sl i k l e).2⟩, h.d1, h.d2, h.d3, by simp [h.pn], h.hn⟩
theorem PG.setRow (h : PG w pb M gb ob n hc rows page on) (i : Nat) {k : IntKind} {l : List Nat} {v : Value} (hs : SlK k w v l) (hv : ∀ b, v.ownBlock = some b → ¬ b = pb ∧ ¬ b = gb ∧ ¬ b = ob) : PG (w.setCell ⟨pb, i, none⟩ v) pb M gb ob n (upd hc i v) (upd rows i (some (k, l))) page on := by
  have f : Fr (fun i => i = pb) w (w.setCell ⟨pb, i, none⟩ v) := (Fr.refl (fun i => i = pb) w).setCell (p := ⟨pb, i, none⟩) (.inl rfl) _
  refine ⟨h.hd.set _ _, h.pg.fr f (fun e => h.d1 e.symm), h.on.fr f (fun e => h.d2 e.symm), fun j q m e => ?_, h.d1, h.d2, h.d3, h.pn, h.hn⟩
  by_cases ej : j = i
  · subst ej
    rw [upd_same] at e ⊢
    simp only [Option.some.injEq, Prod.mk.injEq] at e
    obtain ⟨rfl, rfl⟩ := e
    exact ⟨hs.fr f (fun b hb => (hv b hb).1), hv⟩
  · rw [upd_other _ _ ej] at e ⊢
    exact ⟨(h.sl j q m e).1.fr f (fun b hb => ((h.sl j q m e).2 b hb).1), (h.sl j q m e).2⟩
theorem PG.setNum (h : PG w pb M gb ob n hc rows page on) (i : Nat) (hi : rows i = none) (v : Value) : PG (w.setCell ⟨pb, i, none⟩ v) pb M gb ob n (upd hc i v) rows page on := by
  have f : Fr (fun i => i = pb) w (w.setCell ⟨pb, i, none⟩ v) := (Fr.refl (fun i => i = pb) w).setCell (p := ⟨pb, i, none⟩) (.inl rfl) _
  refine ⟨h.hd.set _ _, h.pg.fr f (fun e => h.d1 e.symm), h.on.fr f (fun e => h.d2 e.symm), fun j q m e => ?_, h.d1, h.d2, h.d3, h.pn, h.hn⟩
  have ej : ¬ j = i := by rintro rfl; rw [hi] at e; cases e
  rw [upd_other _ _ ej]
  exact ⟨(h.sl j q m e).1.fr f (fun b hb => ((h.sl j q m e).2 b hb).1), (h.sl j q m e).2⟩

/-- .. and what has been left since world w0, whose blocks were D0. -/
structure PS (w0 : World) (D0 : Nat → Prop) (pb M gb ob n : Nat) (w : World) (hc : Nat → Value) (rows : RowsF) (page : List Nat) (on : Nat → Bool) : Prop where
  g : PG w pb M gb ob n hc rows page on
  f : Fr (FP pb gb ob) w0 w
  d : ∀ j, DP pb gb ob hc rows j → D0 j ∨ w0.heap.size ≤ j
theorem PS.start (h : PG w pb M gb ob n hc rows page on) : PS w (DP pb gb ob hc rows) pb M gb ob n w hc rows page on := ⟨h, Fr.refl _ _, fun j q => .inl q⟩
theorem PS.fr0 (h : PS w0 D0 pb M gb ob n w hc rows page on) (f : Fr NoF w w') : PS w0 D0 pb M gb ob n w' hc rows page on := ⟨h.g.fr0 f, h.f.trans f (fun _ q => q.elim), h.d⟩
theorem PS.setOn (h : PS w0 D0 pb M gb ob n w hc rows page on) (a : Nat) (x : Bool) : PS w0 D0 pb M gb ob n (w.setCell ⟨ob, a, none⟩ (.bool x)) hc rows page (upd on a x) :=
  ⟨h.g.setOn a x, h.f.setCell (p := ⟨ob, a, none⟩) (.inl (.inr (.inr rfl))) _, h.d⟩
theorem PS.setPage (h : PS w0 D0 pb M gb ob n w hc rows page on) {a : Nat} (ha : a < n) (id : Nat) : PS w0 D0 pb M gb ob n (w.setCell ⟨gb, a, none⟩ (.int .u32 id)) hc rows (page.set a id) on :=
  ⟨h.g.setPage ha id, h.f.setCell (p := ⟨gb, a, none⟩) (.inl (.inr (.inl rfl))) _, h.d⟩
theorem PS.setNum (h : PS w0 D0 pb M gb ob n w hc rows page on) (i : Nat) (hi : rows i = none) (v : Value) : PS w0 D0 pb M gb ob n (w.setCell ⟨pb, i, none⟩ v) (upd hc i v) rows page on := by
  refine ⟨h.g.setNum i hi v, h.f.setCell (p := ⟨pb, i, none⟩) (.inl (.inl rfl)) _, fun j q => h.d j (q.imp id ?_)⟩
  rintro ⟨a, k, l, e, hb⟩
  have : ¬ a = i := by rintro rfl; rw [hi] at e; cases e
  rw [upd_other _ _ this] at hb
  exact ⟨a, k, l, e, hb⟩
theorem PS.setRow (h : PS w0 D0 pb M gb ob n w hc rows page on) (i : Nat) {k : IntKind} {l : List Nat} {v : Value} (hs : SlK k w v l) (hv : ∀ b, v.ownBlock = some b → w0.heap.size ≤ b ∧ ¬ b = pb ∧ ¬ b = gb ∧ ¬ b = ob ∨ ∃ j k l, rows j = some (k, l) ∧ (hc j).ownBlock = some b) : PS w0 D0 pb M gb ob n (w.setCell ⟨pb, i, none⟩ v) (upd hc i v) (upd rows i (some (k, l))) page on := by
  refine ⟨h.g.setRow i hs (fun b hb => ?_), h.f.setCell (p := ⟨pb, i, none⟩) (.inl (.inl rfl)) _, fun j q => ?_⟩
  · rcases hv b hb with q | ⟨j, k, l, e, q⟩
    · exact q.2
    · exact (h.g.sl j k l e).2 b q
  · rcases q with q | ⟨a, q, m, e, hb⟩
    · exact h.d j (.inl q)
    · by_cases ea : a = i
      · subst ea
        rw [upd_same] at hb
        rcases hv j hb with q | q
        · exact .inr q.1
        · exact h.d j (.inr q)
      · rw [upd_other _ _ ea] at e hb
        exact h.d j (.inr ⟨a, q, m, e, hb⟩)
/-- New memory is none of its blocks. -/
theorem PG.fresh (h : PG w pb M gb ob n hc rows page on) {b : Nat} (hb : w.heap.size ≤ b) : ¬ b = pb ∧ ¬ b = gb ∧ ¬ b = ob := by
  have h1 := h.hd.lt
  have h2 := h.pg.lt
  have h3 := h.on.lt
  exact ⟨by omega, by omega, by omega⟩

/-- A number behind a row of the call's own, laid into a cell of the head. -/
theorem PS.push {wA w5 w6 : World} {k : IntKind} {e : TypeId} {l : List Nat} {v5 v' : Value} {x : Nat} (h : PS w0 D0 pb M gb ob n wA hc rows page on) (f5 : Fr NoF wA w5) (ho5 : OwK k wA.heap.size e w5 v5 l) (o : Obj)
    (hown : w6.ownsRow wA.heap.size e 1 v' (l.length + 1) ((l.map fun (x : Nat) => Value.int k (x : Int)) ++ [Value.int k (x : Int)])) (hfr : Fr (fun b => v5.ownBlock = some b) (w5.alloc o) w6) (i : Nat) :
    (∃ a c, v' = .slice a (l.length + 1) c) ∧ PG w6 pb M gb ob n hc rows page on ∧ PS w0 D0 pb M gb ob n (w6.setCell ⟨pb, i, none⟩ v') (upd hc i v') (upd rows i (some (k, l ++ [x]))) page on := by
  have f : Fr NoF wA w6 := (f5.alloc o).trans hfr (fun i hi => .inr (ho5.base i hi))
  have h6 := h.fr0 f
  have ho : OwK k wA.heap.size e w6 v' (l ++ [x]) := OwK.snoc hown
  obtain ⟨a, c, e1, _, _⟩ := ho.sl.shape
  rw [List.length_append] at e1
  refine ⟨⟨a, c, e1⟩, h6.g, h6.setRow i ho.sl (fun b hb => .inl ⟨Nat.le_trans h.f.size (ho.base b hb), h.g.fresh (ho.base b hb)⟩)⟩

/-- A row laid anew: 'append([]T{}, l...)'. -/
theorem own_copy {wA w5 : World} {k : IntKind} {e : TypeId} {l : List Nat} {v' : Value} {g : Nat} {o : Obj} (hg : g = wA.heap.size) (hown : w5.ownsRow wA.heap.size e 1 v' (0 + l.length) ((#[] : Array Value).toList ++ (l.map fun (x : Nat) => Value.int k (x : Int))))
    (hfr : Fr (fun b => (Value.slice (some ⟨g, 0, none⟩) 0 0).ownBlock = some b) (wA.alloc o) w5) : (∃ a c, v' = .slice a l.length c) ∧ OwK k wA.heap.size e w5 v' l ∧ Fr NoF wA w5 := by
  rw [Nat.zero_add] at hown
  have ho : OwK k wA.heap.size e w5 v' l := hown
  obtain ⟨a, c, e1, _, _⟩ := ho.sl.shape
  refine ⟨⟨a, c, e1⟩, ho, ((Fr.refl NoF wA).alloc o).trans hfr (fun i hi => .inr ?_)⟩
  simp [Value.ownBlock] at hi
  omega

/-- A policy's state in memory; Hd: what stands in the cells of the head that are no rows. -/
def PRG {σ : Type} (pb M n : Nat) (Hd : σ → Nat → Nat → (Nat → Value) → Prop) (rowsOf : σ → RowsF) (pageOf : σ → List Nat) (onOf : σ → Nat → Bool) : PRel σ := fun w s F D =>
  ∃ gb ob hc, PG w pb M gb ob n hc (rowsOf s) (pageOf s) (onOf s) ∧ Hd s gb ob hc ∧ (∀ i, F i ↔ FP pb gb ob i) ∧ ∀ i, D i ↔ DP pb gb ob hc (rowsOf s) i
theorem PRG_fr {σ : Type} {Hd : σ → Nat → Nat → (Nat → Value) → Prop} {rowsOf : σ → RowsF} {pageOf : σ → List Nat} {onOf : σ → Nat → Bool} : PFr (PRG pb M n Hd rowsOf pageOf onOf) where
  fr := by
    rintro w w' s F D G ⟨gb, ob, hc, h, hH, hF, hD⟩ f hd
    exact ⟨gb, ob, hc, h.fr f (fun i q => hd i ((hD i).2 q)), hH, hF, hD⟩
  sub := by
    rintro w s F D ⟨gb, ob, hc, h, hH, hF, hD⟩ i hi
    exact (hD i).2 (.inl ((hF i).1 hi))
  lt := by
    rintro w s F D ⟨gb, ob, hc, h, hH, hF, hD⟩ i hi
    exact h.lt i ((hD i).1 hi)
theorem PS.left {σ : Type} {Hd : σ → Nat → Nat → (Nat → Value) → Prop} {rowsOf : σ → RowsF} {pageOf : σ → List Nat} {onOf : σ → Nat → Bool} {s' : σ} {F D : Nat → Prop} {hc' : Nat → Value} (h : PS w (DP pb gb ob hc rows) pb M gb ob n w' hc' (rowsOf s') (pageOf s') (onOf s')) (hH : Hd s' gb ob hc') (hF : ∀ i, F i ↔ FP pb gb ob i) (hD : ∀ i, D i ↔ DP pb gb ob hc rows i) :
    Left (PRG pb M n Hd rowsOf pageOf onOf) w s' F D w' :=
  ⟨F, DP pb gb ob hc' (rowsOf s'), ⟨gb, ob, hc', h.g, hH, hF, fun _ => Iff.rfl⟩, h.f.mono (fun i q => (hF i).2 q), fun i q => .inl q, fun i q => (h.d i q).imp (fun q => (hD i).2 q) id⟩
end
end Go.Proofs.Ytbnckhkamebibaa

/-
  The document's Pro in memory: a head of eight cells, pages, flags, and the entries in a block of their own. What it leaves.
  The document's Pro: an entry goes.
  A region that draws its order, whose last operation waits for all others: the others first, in whatever order, and then the last one. (A store into a cell that the region itself reads.)
  The document's Pro: an entry comes.
  The document's Pro: less, Hot, ghosts, gone, end, of.
-/
import Derived.Test.YtoainbdkhhblbaaK05
import Derived.Test.YtoainbdkhhblbaaK07
import Derived.Test.YtoainbdkhhblbaaK08
import Derived.StillTailTactics
import Derived.IntWalk
import Derived.Deep.LoopGhost
import Derived.Deep.RegionLaw
import Derived.Deep.DeepCutAuto
import Derived.Handy
import Derived.WalkKit
import Derived.Deep.RegionHeld
import Derived.Deep.RegionWith
import Derived.Deep.QuietTactic
namespace Go.Proofs.Ytoainbdkhhblbaa
open Go.RowKit
set_option linter.unusedVariables false
set_option linter.unusedSimpArgs false

def enC (x : En) : Nat → Value
  | 0 => .int .u32 (x.pg : Nat)
  | 1 => .int .i64 x.fr
  | 2 => .bool x.hot
  | 3 => .bool x.ref
  | _ => .bool x.test
def e0 : En := ⟨0, 0, false, false, false⟩
def cE (l : List En) (i : Nat) : Value := enC (l.getD (i / 5) e0) (i % 5)
def hdQ (n gb ob : Nat) (lv : Value) (s : PrS) : Nat → Value
  | 0 => .int .i64 n
  | 1 => .slice (some ⟨gb, 0, none⟩) n n
  | 2 => .slice (some ⟨ob, 0, none⟩) n n
  | 3 => lv
  | 4 => .int .i64 (s.hd 0 : Nat)
  | 5 => .int .i64 (s.hd 1 : Nat)
  | 6 => .int .i64 (s.hd 2 : Nat)
  | _ => .int .i64 (s.goal : Nat)
theorem hdQ_row (n gb ob : Nat) (lv lv' : Value) (s : PrS) (l : List En) : ∀ i, i < 8 → upd (hdQ n gb ob lv s) 3 lv' i = hdQ n gb ob lv' { s with L := l } i := by
  intro i hi
  match i, hi with
  | 0, _ | 1, _ | 2, _ | 3, _ | 4, _ | 5, _ | 6, _ | 7, _ => rfl
theorem hdQ_goal (n gb ob : Nat) (lv : Value) (s : PrS) (g : Nat) : ∀ i, i < 8 → upd (hdQ n gb ob lv s) 7 (.int .i64 g) i = hdQ n gb ob lv { s with goal := g } i := by
  intro i hi
  match i, hi with
  | 0, _ | 1, _ | 2, _ | 3, _ | 4, _ | 5, _ | 6, _ | 7, _ => rfl
theorem hdQ_h (n gb ob : Nat) (lv : Value) (s : PrS) {j : Nat} (hj : j < 3) (x : Nat) : ∀ i, i < 8 → upd (hdQ n gb ob lv s) (4 + j) (.int .i64 x) i = hdQ n gb ob lv { s with hd := upd s.hd j x } i := by
  intro i hi
  match j, hj with
  | 0, _ =>
    match i, hi with
    | 0, _ | 1, _ | 2, _ | 3, _ | 4, _ | 5, _ | 6, _ | 7, _ => rfl
  | 1, _ =>
    match i, hi with
    | 0, _ | 1, _ | 2, _ | 3, _ | 4, _ | 5, _ | 6, _ | 7, _ => rfl
  | 2, _ =>
    match i, hi with
    | 0, _ | 1, _ | 2, _ | 3, _ | 4, _ | 5, _ | 6, _ | 7, _ => rfl
theorem hdQ_hand (n gb ob : Nat) (lv : Value) (s : PrS) {j : Nat} (hj : j < 3) : hdQ n gb ob lv s (4 + j) = .int .i64 (s.hd j : Nat) := by
  match j, hj with
  | 0, _ | 1, _ | 2, _ => rfl
theorem cE_at {l : List En} {i k : Nat} {x : En} (hx : l[i]? = some x) (hk : k < 5) : cE l (i * 5 + k) = enC x k := by
  unfold cE
  rw [show (i * 5 + k) / 5 = i from by omega, show (i * 5 + k) % 5 = k from by omega, List.getD_eq_getElem?_getD, hx]; rfl
theorem cE_put {l : List En} {i k : Nat} {x y : En} (hx : l[i]? = some x) (hk : k < 5) (v : Value) (hv : ∀ j, j < 5 → enC y j = if j = k then v else enC x j) : upd (cE l) (i * 5 + k) v = cE (l.set i y) := by
  have hl : i < l.length := (List.getElem?_eq_some_iff.1 hx).1
  funext j
  by_cases e : j / 5 = i
  · have ej : j = i * 5 + j % 5 := by omega
    have hg : cE (l.set i y) j = enC y (j % 5) := by rw [ej, cE_at (x := y) (by simp [hl]) (by omega), ← ej]
    rw [hg, hv _ (by omega)]
    by_cases e2 : j % 5 = k
    · rw [if_pos e2, ← e2, ← ej, upd_same]
    · rw [if_neg e2, upd_other _ _ (by omega)]
      rw [ej, cE_at hx (by omega), ← ej]
  · rw [upd_other _ _ (by rintro rfl; apply e; omega)]
    unfold cE
    rw [List.getD_eq_getElem?_getD, List.getD_eq_getElem?_getD, List.getElem?_set_ne (fun q => e q.symm)]

structure RQ (w : World) (pb gb ob n : Nat) (s : PrS) (lv : Value) : Prop where
  hd : Blk w pb 8 (hdQ n gb ob lv s)
  pg : Blk w gb n (uN s.pg)
  on : Blk w ob n (bF s.on)
  sl : SlF w 74 5 lv s.L.length (cE s.L)
  dl : ∀ b, lv.ownBlock = some b → ¬ b = pb ∧ ¬ b = gb ∧ ¬ b = ob
  d1 : ¬ pb = gb
  d2 : ¬ pb = ob
  d3 : ¬ gb = ob
  hn : n < 1000
  hm : s.L.length < 4000

/-- .. with what has been left since world w0: blocks of F, and new ones. -/
structure RS (w0 : World) (F : Nat → Prop) (pb gb ob n : Nat) (w : World) (s : PrS) : Prop where
  m : ∃ lv, RQ w pb gb ob n s lv ∧ ∀ b, lv.ownBlock = some b → F b ∨ w0.heap.size ≤ b
  f : Fr F w0 w
  F3 : F pb ∧ F gb ∧ F ob

section
variable {w w' w0 : World} {pb gb ob n m : Nat} {F : Nat → Prop} {s : PrS} {lv : Value}
theorem RQ.fr0 (h : RQ w pb gb ob n s lv) (f : Fr NoF w w') : RQ w' pb gb ob n s lv :=
  ⟨h.hd.fr f id, h.pg.fr f id, h.on.fr f id, h.sl.fr0 f, h.dl, h.d1, h.d2, h.d3, h.hn, h.hm⟩
theorem RS.fr0 (h : RS w0 F pb gb ob n w s) (f : Fr NoF w w') : RS w0 F pb gb ob n w' s := by
  obtain ⟨⟨lv, h1, h2⟩, h3, h4⟩ := h
  exact ⟨⟨lv, h1.fr0 f, h2⟩, h3.trans f (fun _ q => q.elim), h4⟩
theorem RQ.c (h : RQ w pb gb ob n s lv) (i : Nat) (hi : i < 8) : w.cell? ⟨pb, i, none⟩ = some (hdQ n gb ob lv s i) := h.hd.cell hi
theorem RQ.hand (h : RQ w pb gb ob n s lv) {j : Nat} (hj : j < 3) : w.cell? ⟨pb, 4 + j, none⟩ = some (.int .i64 (s.hd j : Nat)) := by
  rw [h.hd.cell (by omega), hdQ_hand _ _ _ _ _ hj]
theorem RQ.shape (h : RQ w pb gb ob n s lv) : ∃ a c, lv = .slice a s.L.length c ∧ s.L.length ≤ c ∧ c ≤ maxLen := h.sl.shape
/-- An entry. -/
theorem RQ.at (h : RQ w pb gb ob n s lv) {i : Nat} {x : En} (hx : s.L[i]? = some x) : ∃ g cap, lv = .slice (some ⟨g, 0, none⟩) s.L.length cap ∧ s.L.length ≤ cap ∧ cap ≤ maxLen ∧ g < w.heap.size ∧ (∀ i, w.frozen? ⟨g, i, none⟩ = false) ∧ i < s.L.length ∧
    w.cell? ⟨g, i * 5, none⟩ = some (.int .u32 (x.pg : Nat)) ∧ w.cell? ⟨g, i * 5 + 1, none⟩ = some (.int .i64 x.fr) ∧ w.cell? ⟨g, i * 5 + 2, none⟩ = some (.bool x.hot) ∧ w.cell? ⟨g, i * 5 + 3, none⟩ = some (.bool x.ref) ∧ w.cell? ⟨g, i * 5 + 4, none⟩ = some (.bool x.test) := by
  have hl : i < s.L.length := (List.getElem?_eq_some_iff.1 hx).1
  obtain ⟨g, cap, e, h1, h2, h3, h4, h5⟩ := h.sl.at (by omega)
  exact ⟨g, cap, e, h1, h2, h3, h4, hl, (h5 (i * 5 + 0) (by omega)).trans (by rw [cE_at hx (by omega)]; rfl), (h5 _ (by omega)).trans (by rw [cE_at hx (by omega)]; rfl), (h5 _ (by omega)).trans (by rw [cE_at hx (by omega)]; rfl), (h5 _ (by omega)).trans (by rw [cE_at hx (by omega)]; rfl), (h5 _ (by omega)).trans (by rw [cE_at hx (by omega)]; rfl)⟩
theorem RQ.setHead (h : RQ w pb gb ob n s lv) {s' : PrS} {i : Nat} {v : Value} (e : ∀ j, j < 8 → upd (hdQ n gb ob lv s) i v j = hdQ n gb ob lv s' j) (e1 : s'.L = s.L) (e2 : s'.pg = s.pg) (e3 : s'.on = s.on) : RQ (w.setCell ⟨pb, i, none⟩ v) pb gb ob n s' lv := by
  have f : Fr (fun i => i = pb) w (w.setCell ⟨pb, i, none⟩ v) := (Fr.refl (fun i => i = pb) w).setCell (p := ⟨pb, i, none⟩) (.inl rfl) _
  refine ⟨(h.hd.set i v).congr e, by rw [e2]; exact h.pg.fr f (fun q => h.d1 q.symm), by rw [e3]; exact h.on.fr f (fun q => h.d2 q.symm), by rw [e1]; exact h.sl.fr f (fun b q => (h.dl b q).1), h.dl, h.d1, h.d2, h.d3, h.hn, by rw [e1]; exact h.hm⟩
theorem RQ.setPage (h : RQ w pb gb ob n s lv) (a id : Nat) : RQ (w.setCell ⟨gb, a, none⟩ (.int .u32 id)) pb gb ob n { s with pg := upd s.pg a id } lv := by
  have f : Fr (fun i => i = gb) w (w.setCell ⟨gb, a, none⟩ (.int .u32 id)) := (Fr.refl (fun i => i = gb) w).setCell (p := ⟨gb, a, none⟩) (.inl rfl) _
  exact ⟨(h.hd.fr f h.d1).congr (fun i hi => by match i, hi with
    | 0, _ | 1, _ | 2, _ | 3, _ | 4, _ | 5, _ | 6, _ | 7, _ => rfl), by rw [← uN_set]; exact h.pg.set _ _, h.on.fr f (fun q => h.d3 q.symm), h.sl.fr f (fun b q => (h.dl b q).2.1), h.dl, h.d1, h.d2, h.d3, h.hn, h.hm⟩
theorem RQ.setOn (h : RQ w pb gb ob n s lv) (a : Nat) (v : Bool) : RQ (w.setCell ⟨ob, a, none⟩ (.bool v)) pb gb ob n { s with on := upd s.on a v } lv := by
  have f : Fr (fun i => i = ob) w (w.setCell ⟨ob, a, none⟩ (.bool v)) := (Fr.refl (fun i => i = ob) w).setCell (p := ⟨ob, a, none⟩) (.inl rfl) _
  exact ⟨(h.hd.fr f h.d2).congr (fun i hi => by match i, hi with
    | 0, _ | 1, _ | 2, _ | 3, _ | 4, _ | 5, _ | 6, _ | 7, _ => rfl), h.pg.fr f h.d3, by rw [← bF_set]; exact h.on.set _ _, h.sl.fr f (fun b q => (h.dl b q).2.2), h.dl, h.d1, h.d2, h.d3, h.hn, h.hm⟩
/-- A cell of an entry. -/
theorem RQ.setEn {g cap : Nat} (h : RQ w pb gb ob n s (.slice (some ⟨g, 0, none⟩) s.L.length cap)) {i k : Nat} {x y : En} (hx : s.L[i]? = some x) (hk : k < 5) (v : Value) (hv : ∀ j, j < 5 → enC y j = if j = k then v else enC x j) : RQ (w.setCell ⟨g, i * 5 + k, none⟩ v) pb gb ob n (s.put i y) (.slice (some ⟨g, 0, none⟩) s.L.length cap) := by
  have hl : i < s.L.length := (List.getElem?_eq_some_iff.1 hx).1
  obtain ⟨n1, n2, n3⟩ := h.dl g rfl
  have f : Fr (fun i => i = g) w (w.setCell ⟨g, i * 5 + k, none⟩ v) := (Fr.refl (fun i => i = g) w).setCell (p := ⟨g, i * 5 + k, none⟩) (.inl rfl) _
  have el : (s.put i y).L.length = s.L.length := by show (s.L.set i y).length = _; rw [List.length_set]
  refine ⟨(h.hd.fr f (fun q => n1 q.symm)).congr (fun i hi => by match i, hi with
    | 0, _ | 1, _ | 2, _ | 3, _ | 4, _ | 5, _ | 6, _ | 7, _ => rfl), h.pg.fr f (fun q => n2 q.symm), h.on.fr f (fun q => n3 q.symm), ?_, h.dl, h.d1, h.d2, h.d3, h.hn, by rw [el]; exact h.hm⟩
  rw [el]
  show SlF _ _ 5 _ _ (cE (s.L.set i y))
  rw [← cE_put hx hk v hv]
  have hik : i * 5 + k < s.L.length * 5 := by omega
  exact h.sl.set hik v
/-- Another list. -/
theorem RQ.setRow (h : RQ w pb gb ob n s lv) {lv' : Value} {l : List En} (hs : SlF w 74 5 lv' l.length (cE l)) (hd : ∀ b, lv'.ownBlock = some b → ¬ b = pb ∧ ¬ b = gb ∧ ¬ b = ob) (hm : l.length < 4000) : RQ (w.setCell ⟨pb, 3, none⟩ lv') pb gb ob n { s with L := l } lv' := by
  have f : Fr (fun i => i = pb) w (w.setCell ⟨pb, 3, none⟩ lv') := (Fr.refl (fun i => i = pb) w).setCell (p := ⟨pb, 3, none⟩) (.inl rfl) _
  exact ⟨(h.hd.set 3 lv').congr (hdQ_row n gb ob lv lv' s l), h.pg.fr f (fun q => h.d1 q.symm), h.on.fr f (fun q => h.d2 q.symm), hs.fr f (fun b q => (hd b q).1), hd, h.d1, h.d2, h.d3, h.hn, hm⟩
theorem RQ.new (h : RQ w pb gb ob n s lv) {b : Nat} (hb : w.heap.size ≤ b) : ¬ b = pb ∧ ¬ b = gb ∧ ¬ b = ob := by
  have h1 := h.hd.lt
  have h2 := h.pg.lt
  have h3 := h.on.lt
  exact ⟨by omega, by omega, by omega⟩
theorem RS.lt (h : RS w0 F pb gb ob n w s) : pb < w.heap.size := by
  obtain ⟨⟨lv, h1, _⟩, _⟩ := h
  exact h1.hd.lt

set_option maxRecDepth 100000 in
set_option maxHeartbeats 2000000 in
theorem q_move (h : RS w0 F pb gb ob n w s) (hL : 0 < s.L.length) {j : Nat} (hj : j < 3) (hh : s.hd j < s.L.length) : Calls Try.prog 46 #[.pointer (some ⟨pb, 0, none⟩), .int .i64 j] w fun e w' => e = .returned (.tuple #[]) ∧ RS w0 F pb gb ob n w' (s.mv j) := by
  obtain ⟨⟨lv, h1, h2⟩, h3, h4⟩ := h
  obtain ⟨a, c, rfl, l1, l2⟩ := h1.shape
  have c3 : w.cell? ⟨pb, 3, none⟩ = some (.slice a s.L.length c) := h1.c 3 (by omega)
  have ch := h1.hand hj
  have lb := h1.hd.lt
  have hm := h1.hm
  have hlp : (0 : Int) < (s.L.length : Int) := by omega
  have fz : w.frozen? ⟨pb, 4 + j, none⟩ = false := h1.hd.frozen _
  have em : (((s.hd j : Nat) : Int) + 1) % (s.L.length : Int) = (((s.hd j + 1) % s.L.length : Nat) : Int) := by push_cast; rfl
  have HK : Hid (∀ d, RS w0 F pb gb ob n ((w.drewN d).setCell ⟨pb, 4 + j, none⟩ (.int .i64 (((s.hd j + 1) % s.L.length : Nat) : Int))) (s.mv j)) := fun d => by
    refine ⟨⟨_, (h1.fr0 ((Fr.refl NoF w).drewN d)).setHead (s' := s.mv j) (hdQ_h _ _ _ _ _ hj _) rfl rfl rfl, h2⟩, (h3.trans ((Fr.refl NoF w).drewN d) (fun _ q => q.elim)).setCell (p := ⟨pb, 4 + j, none⟩) (.inl h4.1) _, h4⟩
  clear h1 h2 h3 h4
  generalize s.L.length = z at *
  generalize s.hd j = x at *
  go_enter Try.func46, Try.ntmps46
  have hw1 : IntKind.i64.wrap ((x : Int) + 1) = (x : Int) + 1 := IntWalk.i64_in _ (by omega)
  have hmt : ((x : Int) + 1).tmod (z : Int) = (((x + 1) % z : Nat) : Int) := by rw [Int.tmod_eq_emod_of_nonneg (by omega), em]
  have hw2 : IntKind.i64.wrap (((x + 1) % z : Nat) : Int) = (((x + 1) % z : Nat) : Int) := IntWalk.i64_in _ (by have := Nat.mod_lt (x + 1) (show 0 < z by omega); omega)
  clear em
  have hz0 : ((z : Int) == 0) = false := by simp; omega
  have hz1 : ¬ (z : Int) = 0 := by omega
  have hz2 : ¬ z = 0 := by omega
  match j, hj with
  | 0, _ =>
    have ch0 : w.cell? ⟨pb, 4, none⟩ = some (.int .i64 (x : Nat)) := ch
    have fz0 : w.frozen? ⟨pb, 4, none⟩ = false := fz
    clear ch fz
    go_wp2
    go_still_tail 17, (by kernel_rfl)
    go_wp2
    go_returns
    exact ⟨rfl, HK.out 1⟩
  | 1, _ =>
    have ch0 : w.cell? ⟨pb, 5, none⟩ = some (.int .i64 (x : Nat)) := ch
    have fz0 : w.frozen? ⟨pb, 5, none⟩ = false := fz
    clear ch fz
    go_wp2
    go_still_tail 17, (by kernel_rfl)
    go_wp2
    go_returns
    exact ⟨rfl, HK.out 1⟩
  | 2, _ =>
    have ch0 : w.cell? ⟨pb, 6, none⟩ = some (.int .i64 (x : Nat)) := ch
    have fz0 : w.frozen? ⟨pb, 6, none⟩ = false := fz
    clear ch fz
    go_wp2
    go_still_tail 17, (by kernel_rfl)
    go_wp2
    go_returns
    exact ⟨rfl, HK.out 1⟩
end
end Go.Proofs.Ytoainbdkhhblbaa
namespace Go.Proofs.Ytoainbdkhhblbaa
open Go.RowKit
set_option linter.unusedVariables false
set_option linter.unusedSimpArgs false

theorem EIE : EI Try.prog 42 74 5 24 := EI.mk' (z := .agg #[.int .u32 0, .int .i64 0, .bool false, .bool false, .bool false]) Try.underlying42 (by kernel_rfl) rfl (by decide)
def enL (x : En) : List Value := [.int .u32 (x.pg : Nat), .int .i64 x.fr, .bool x.hot, .bool x.ref, .bool x.test]
def ensC (l : List En) : List Value := l.flatMap enL
theorem ensC_len (l : List En) : (ensC l).length = l.length * 5 := by
  induction l with
  | nil => rfl
  | cons a l ih => unfold ensC at *; rw [List.flatMap_cons, List.length_append, ih, List.length_cons]; simp only [enL, List.length_cons, List.length_nil]; omega
theorem ensC_one (l : List En) : ∀ u ∈ ensC l, u.oneCell' = true := by
  intro u hu
  obtain ⟨x, _, hx⟩ := List.mem_flatMap.1 hu
  simp only [enL, List.mem_cons, List.not_mem_nil, or_false] at hx
  rcases hx with rfl | rfl | rfl | rfl | rfl <;> rfl
theorem ensC_app (a b : List En) : ensC (a ++ b) = ensC a ++ ensC b := List.flatMap_append
theorem cE_list (l : List En) : (List.range (l.length * 5)).map (cE l) = ensC l := by
  apply List.ext_getElem?
  intro j
  by_cases hj : j < l.length * 5
  · have hi : j / 5 < l.length := by omega
    rw [List.getElem?_map, List.getElem?_range hj, Option.map_some]
    have key : ∀ (l : List En) (i k : Nat), i < l.length → k < 5 → (ensC l)[i * 5 + k]? = some (enC (l.getD i e0) k) := by
      intro l
      induction l with
      | nil => intro i k hi; cases hi
      | cons a l ih =>
        intro i k hi hk
        unfold ensC
        rw [List.flatMap_cons]
        cases i with
        | zero =>
          rw [List.getElem?_append_left (by show _ < 5; omega)]
          match k, hk with
          | 0, _ | 1, _ | 2, _ | 3, _ | 4, _ => rfl
        | succ i =>
          rw [List.getElem?_append_right (by show 5 ≤ _; omega)]
          rw [show (i + 1) * 5 + k - (enL a).length = i * 5 + k from by show (i + 1) * 5 + k - 5 = _; omega]
          exact ih i k (by simpa using hi) hk
    have := key l (j / 5) (j % 5) hi (by omega)
    rw [show j / 5 * 5 + j % 5 = j from by omega] at this
    rw [this]; rfl
  · rw [List.getElem?_eq_none (by simp; omega), List.getElem?_eq_none (by rw [ensC_len]; omega)]
theorem ensC_take (l : List En) (i : Nat) : (ensC l).take (i * 5) = ensC (l.take i) := by
  induction l generalizing i with
  | nil => simp [ensC]
  | cons a l ih =>
    cases i with
    | zero => simp [ensC]
    | succ i =>
      have := ih i
      unfold ensC at *
      rw [List.take_succ_cons, List.flatMap_cons, List.flatMap_cons, List.take_append, show (enL a).length = 5 from rfl, show (i + 1) * 5 - 5 = i * 5 from by omega, this, List.take_of_length_le (by show 5 ≤ _; omega)]
theorem ensC_drop (l : List En) (i : Nat) : (ensC l).drop (i * 5) = ensC (l.drop i) := by
  have h := ensC_take l i
  have h2 : ensC l = ensC (l.take i) ++ ensC (l.drop i) := by rw [← ensC_app, List.take_append_drop]
  rw [← List.take_append_drop (i * 5) (ensC l), h] at h2
  exact List.append_cancel_left h2

section
variable {w w' w0 : World} {pb gb ob n m : Nat} {F : Nat → Prop} {s : PrS} {lv : Value}
theorem RQ.own (h : RQ w pb gb ob n s lv) : w.ownsRow 0 74 5 lv s.L.length (ensC s.L) := by
  have := h.sl
  unfold SlF at this
  rw [cE_list] at this
  exact this
theorem SlF.of {v : Value} {l : List En} {base : Nat} (h : w.ownsRow base 74 5 v l.length (ensC l)) : SlF w 74 5 v l.length (cE l) := by
  unfold SlF
  rw [cE_list]
  obtain ⟨h1, h2⟩ := h
  refine ⟨h1, h2.imp id ?_⟩
  rintro ⟨g, cap, cur, e1, hg, r⟩
  exact ⟨g, cap, cur, e1, Nat.zero_le _, r⟩
theorem RQ.head {b off c i : Nat} (h : RQ w pb gb ob n s (.slice (some ⟨b, off, none⟩) s.L.length c)) (hi : i < s.L.length) : SlC w 5 (.slice (some ⟨b, off, none⟩) i c) i (ensC (s.L.take i)) := by
  have hs := SlC.ofOwn h.own (ensC_one _)
  obtain ⟨_, _, e2, h1, _⟩ := hs.shape
  simp only [Value.slice.injEq] at e2
  obtain ⟨_, _, rfl⟩ := e2
  obtain ⟨b', off', e2, hs2⟩ := hs.cut (lo := 0) (hi := i) (Nat.zero_le _) (by omega) rfl (by omega)
  simp only [Option.some.injEq, Addr.mk.injEq] at e2
  obtain ⟨rfl, rfl, _⟩ := e2
  have e3 : ((ensC s.L).drop (0 * 5)).take ((i - 0) * 5) = ensC (s.L.take i) := by rw [← ensC_take]; simp
  rw [e3] at hs2
  simpa using hs2
theorem RQ.tail {b off c i : Nat} (h : RQ w pb gb ob n s (.slice (some ⟨b, off, none⟩) s.L.length c)) (hi : i < s.L.length) : SlC w 5 (.slice (if c = i + 1 then some ⟨b, off, none⟩ else some ⟨b, off + (i + 1) * 5, none⟩) (s.L.length - (i + 1)) (c - (i + 1))) (s.L.length - (i + 1)) (ensC (s.L.drop (i + 1))) := by
  have hs := SlC.ofOwn h.own (ensC_one _)
  obtain ⟨_, _, e2, h1, h2⟩ := hs.shape
  simp only [Value.slice.injEq] at e2
  obtain ⟨_, _, rfl⟩ := e2
  by_cases hc : c = i + 1
  · rw [if_pos hc]
    have : s.L.drop (i + 1) = [] := by apply List.eq_nil_of_length_eq_zero; rw [List.length_drop]; omega
    rw [this, show s.L.length - (i + 1) = 0 from by omega, show c - (i + 1) = 0 from by omega]
    exact ⟨_, 0, rfl, by simp [ensC], by simp [ensC], Nat.le_refl _, by unfold maxLen; omega, .inr ⟨b, off, rfl, hs.lt b rfl, fun j u hj => by simp [ensC] at hj⟩⟩
  · rw [if_neg hc]
    obtain ⟨b', off', e2, hs2⟩ := hs.cut (lo := i + 1) (hi := s.L.length) (by omega) (Nat.le_refl _) rfl (by omega)
    simp only [Option.some.injEq, Addr.mk.injEq] at e2
    obtain ⟨rfl, rfl, _⟩ := e2
    have e3 : ((ensC s.L).drop ((i + 1) * 5)).take ((s.L.length - (i + 1)) * 5) = ensC (s.L.drop (i + 1)) := by
      rw [ensC_drop, List.take_of_length_le (by rw [ensC_len, List.length_drop]; omega)]
    rw [e3] at hs2
    exact hs2
/-- The hands but for three are none's. -/
theorem RQ.hands {s' : PrS} (h : RQ w pb gb ob n s lv) (e1 : s'.L = s.L) (e2 : s'.pg = s.pg) (e3 : s'.on = s.on) (e4 : s'.goal = s.goal) (e5 : ∀ j, j < 3 → s'.hd j = s.hd j) : RQ w pb gb ob n s' lv := by
  refine ⟨h.hd.congr (fun i hi => ?_), by rw [e2]; exact h.pg, by rw [e3]; exact h.on, by rw [e1]; exact h.sl, h.dl, h.d1, h.d2, h.d3, h.hn, by rw [e1]; exact h.hm⟩
  unfold hdQ
  match i, hi with
  | 0, _ | 1, _ | 2, _ | 3, _ => rfl
  | 4, _ => simp only; rw [e5 0 (by omega)]
  | 5, _ => simp only; rw [e5 1 (by omega)]
  | 6, _ => simp only; rw [e5 2 (by omega)]
  | 7, _ => simp only; rw [e4]
theorem RS.hands {s' : PrS} (h : RS w0 F pb gb ob n w s) (e1 : s'.L = s.L) (e2 : s'.pg = s.pg) (e3 : s'.on = s.on) (e4 : s'.goal = s.goal) (e5 : ∀ j, j < 3 → s'.hd j = s.hd j) : RS w0 F pb gb ob n w s' := by
  obtain ⟨⟨lv, h1, h2⟩, h3, h4⟩ := h
  exact ⟨⟨lv, h1.hands e1 e2 e3 e4 e5, h2⟩, h3, h4⟩
theorem RS.setHand (h : RS w0 F pb gb ob n w s) {j : Nat} (hj : j < 3) (x : Nat) : RS w0 F pb gb ob n (w.setCell ⟨pb, 4 + j, none⟩ (.int .i64 x)) { s with hd := upd s.hd j x } := by
  obtain ⟨⟨lv, h1, h2⟩, h3, h4⟩ := h
  exact ⟨⟨lv, h1.setHead (s' := { s with hd := upd s.hd j x }) (hdQ_h _ _ _ _ _ hj _) rfl rfl rfl, h2⟩, h3.setCell (p := ⟨pb, 4 + j, none⟩) (.inl h4.1) _, h4⟩
def PrS.part (s : PrS) (i h : Nat) : PrS := { s with L := s.L.eraseIdx i, hd := fun j => if j < h then dropH i (s.L.length - 1) (s.hd j) else s.hd j }

set_option maxRecDepth 100000 in
set_option maxHeartbeats 4000000 in
theorem q_drop (h : RS w0 F pb gb ob n w s) {i : Nat} (hi : i < s.L.length) (hh : ∀ j, j < 3 → s.hd j < s.L.length) : Calls Try.prog 49 #[.pointer (some ⟨pb, 0, none⟩), .int .i64 i] w fun e w' => e = .returned (.tuple #[]) ∧ RS w0 F pb gb ob n w' (s.drop i) := by
  obtain ⟨⟨lv, h1, h2⟩, h3, h4⟩ := h
  obtain ⟨x, hx⟩ : ∃ x, s.L[i]? = some x := ⟨_, List.getElem?_eq_getElem hi⟩
  obtain ⟨b, c, rfl, q1, q2, lb, -⟩ := h1.at hx
  obtain ⟨off, hoff⟩ : ∃ o : Nat, o = 0 := ⟨0, rfl⟩
  rw [show (⟨b, 0, none⟩ : Addr) = ⟨b, off, none⟩ from by rw [hoff]] at h1 h2
  clear hoff
  unfold maxLen at q2
  have hm := h1.hm
  have c3 : w.cell? ⟨pb, 3, none⟩ = some (.slice (some ⟨b, off, none⟩) s.L.length c) := h1.c 3 (by omega)
  have lp := h1.hd.lt
  have f3 := h1.hd.frozen 3
  have HFI : Hid (∀ W, Fr NoF w W → SlC W 5 (.slice (some ⟨b, off, none⟩) i c) i (ensC (s.L.take i))) := fun W f => (h1.head hi).keep f
  obtain ⟨AD, hAD, hLA2⟩ : ∃ AD, (if c = i + 1 then some ⟨b, off, none⟩ else some ⟨b, off + (i + 1) * 5, none⟩) = AD ∧ Hid (∀ W, Fr NoF w W → SlC W 5 (.slice AD (s.L.length - (i + 1)) (c - (i + 1))) (s.L.length - (i + 1)) (ensC (s.L.drop (i + 1)))) := ⟨_, rfl, fun W f => (h1.tail hi).keep f⟩
  have HOW : Hid (∀ W, Fr NoF (w.alloc (.cells #[] 74)) W → W.ownsRow w.heap.size 74 5 (.slice (some ⟨w.heap.size, 0, none⟩) 0 0) 0 []) := fun W f => own_keep (own_new (w0 := w) (Nat.le_refl _) #[] 74 5 0 _ rfl rfl (by unfold maxLen; omega)) f (fun _ _ q => q)
  have KC : Hid (∀ W, Fr NoF w W → W.cell? ⟨pb, 3, none⟩ = some (.slice (some ⟨b, off, none⟩) s.L.length c) ∧ W.frozen? ⟨pb, 3, none⟩ = false ∧ pb < W.heap.size) := fun W f => ⟨(h1.fr0 f).c 3 (by omega), (h1.fr0 f).hd.frozen 3, (h1.fr0 f).hd.lt⟩
  have HO1 : Hid (∀ u ∈ ensC (s.L.take i), u.oneCell' = true) := ensC_one _
  have HO2 : Hid (∀ u ∈ ensC (s.L.drop (i + 1)), u.oneCell' = true) := ensC_one _
  have FIN : Hid (∀ w6 v6, w6.ownsRow w.heap.size 74 5 v6 (i + (s.L.length - (i + 1))) (ensC (s.L.take i) ++ ensC (s.L.drop (i + 1))) → Fr NoF w w6 → RS w0 F pb gb ob n (w6.setCell ⟨pb, 3, none⟩ v6) (s.part i 0)) := by
    intro w6 v6 hown f
    have hlen : (s.L.take i ++ s.L.drop (i + 1)).length = i + (s.L.length - (i + 1)) := by rw [List.length_append, List.length_take, List.length_drop, Nat.min_eq_left (by omega)]
    rw [← ensC_app, ← hlen] at hown
    have hb := ownBlock_own hown
    have hr := (h1.fr0 f).setRow (SlF.of hown) (fun b q => h1.new (hb b q)) (by rw [hlen]; omega)
    refine ⟨⟨v6, hr.hands (by show s.L.eraseIdx i = _; rw [List.eraseIdx_eq_take_drop_succ]) rfl rfl rfl (fun j hj => rfl), fun b q => .inr (Nat.le_trans h3.size (hb b q))⟩, (h3.trans f (fun _ q => q.elim)).setCell (p := ⟨pb, 3, none⟩) (.inl h4.1) _, h4⟩
  clear h1 h2 h3 h4 hx x
  have hkc : i ≤ c := by omega
  have hk1 : i + 1 ≤ s.L.length := hi
  have hk2 : i + 1 ≤ c := by omega
  have hki1 : 0 ≤ (i : Int) + 1 := by omega
  have hki2 : (i : Int) + 1 ≤ (s.L.length : Int) := by omega
  have hkw : IntKind.i64.wrap ((i : Int) + 1) = ((i + 1 : Nat) : Int) := IntWalk.i64_in _ (by omega)
  go_enter Try.func49, Try.ntmps49
  go_upto_region 0 with fail
  go_cut [] (fun wx => RS w0 F pb gb ob n wx (s.part i 0))
  case first =>
    go_region_law (first
        | (refine appSB (base := w.heap.size) EIE rfl (.tmp 6) (.tmp 12) rfl (by rfl) (by rfl) (by simp; try omega) (HOW.out _ (by repeat (first | exact Fr.refl NoF _ | apply Fr.drew | apply Fr.alloc))) (HFI.out _ (by repeat (first | exact Fr.refl NoF _ | apply Fr.drew | apply Fr.alloc))) (by unfold maxLen; omega) (by omega) ?_; intro v5 w5 hown5 hf5 hob5; rw [Nat.zero_add, List.nil_append] at hown5; obtain ⟨a5, c5, rfl, _, _⟩ := (SlC.ofOwn hown5 HO1.out).shape; have HO5 := Lib.hid hown5; have HF5 := Lib.hid (Fr.trans (F := NoF) (a := w) (by repeat (first | exact Fr.refl NoF _ | apply Fr.drew | apply Fr.alloc)) hf5 (fun i q => .inr (by cases q; exact Nat.le_refl _))); obtain ⟨x1, x2, x3⟩ := KC.out w5 HF5.out; have hs5 := HF5.out.size; clear hown5 hf5 hob5)
        | (refine appSB (base := w.heap.size) EIE rfl (.tmp 13) (.tmp 20) rfl (by rfl) (by rfl) hs5 HO5.out (hLA2.out _ HF5.out) (by unfold maxLen; omega) (by omega) ?_; intro v6 w6 hown6 hf6 hob6; obtain ⟨a6, c6', rfl, _, _⟩ := (SlC.ofOwn hown6 (fun u hu => by rcases List.mem_append.1 hu with q | q; exact HO1.out u q; exact HO2.out u q)).shape; have HO6 := Lib.hid hown6; have HF6 := Lib.hid (HF5.out.trans hf6 (fun i q => .inr (ownBlock_own HO5.out i q))); obtain ⟨y1, y2, y3⟩ := KC.out w6 HF6.out; clear hown6 hf6 hob6))
    all_goals
      have HST := Lib.hid (FIN.out _ _ HO6.out HF6.out)
      clear FIN HO6 HF6 HO5 HF5 x1 x2 x3 y1 y2 y3 HOW KC HFI hLA2 HO1 HO2 c3 f3 hAD
      go_wp2_with fail
      go_meet
      exact HST.out
  case rest =>
    clear FIN HOW KC HFI hLA2 HO1 HO2 c3 f3 hAD hkw hki1 hki2 hk2 hk1 hkc q1 q2 lb lp
    have HST := Lib.hid hcut
    clear hcut
    go_wp2_with fail
    go_loopg [4] 3 (fun g v wr => ∃ h, h ≤ 3 ∧ g = 3 - h ∧ v = .int .i64 h ∧ RS w0 F pb gb ob n wr (s.part i h))
    case atStart => exact ⟨0, by omega, rfl, rfl, HST.out⟩
    case round =>
      obtain ⟨h, hl, rfl, rfl, hr⟩ := hrel
      clear HST
      have HR := Lib.hid hr
      by_cases hlt : h < 3
      · obtain ⟨⟨lv, r1, r2⟩, r3, r4⟩ := hr
        obtain ⟨a, c0, rfl, l1, l2⟩ := r1.shape
        have el : (s.part i h).L.length = s.L.length - 1 := List.length_eraseIdx_of_lt hi
        have c3 : wr.cell? ⟨pb, 3, none⟩ = some (.slice a (s.part i h).L.length c0) := r1.c 3 (by omega)
        have ch := r1.hand hlt
        have eh : (s.part i h).hd h = s.hd h := by show (if h < h then _ else _) = _; rw [if_neg (by omega)]
        rw [el] at c3 l1
        rw [eh] at ch
        have lb := r1.hd.lt
        have fz := r1.hd.frozen (4 + h)
        have hx := hh h hlt
        have DN : Hid (∀ wz y, RS w0 F pb gb ob n wz { s.part i h with hd := upd (s.part i h).hd h y } → y = dropH i (s.L.length - 1) (s.hd h) → RS w0 F pb gb ob n wz (s.part i (h + 1))) := fun wz y q e => q.hands rfl rfl rfl rfl (fun j hj => by
          show (if j < h + 1 then _ else _) = upd _ h y j
          by_cases e1 : j = h
          · rw [e1, if_pos (by omega), upd_same, e]
          · rw [upd_other _ _ e1]; show _ = (if j < h then _ else _)
            by_cases e2 : j < h
            · rw [if_pos e2, if_pos (by omega)]
            · rw [if_neg e2, if_neg (by omega)])
        unfold dropH at DN
        clear r1 r2 r3 r4 el eh hh
        generalize hex : s.hd h = x at *
        have EX := Lib.hid hex
        clear hex
        generalize s.L.length = z at *
        by_cases e1 : i < x
        · rw [if_pos e1, if_neg (show ¬ z - 1 ≤ x - 1 by omega)] at DN
          have e2 : (x : Int) - 1 = ((x - 1 : Nat) : Int) := by omega
          have ST : Hid (∀ d d', RS w0 F pb gb ob n (((wr.drewN d).setCell ⟨pb, 4 + h, none⟩ (.int .i64 ((x : Int) - 1))).drewN d') (s.part i (h + 1))) := fun d d' => DN.out _ (x - 1) (by rw [e2]; exact ((HR.out.fr0 ((Fr.refl NoF wr).drewN d)).setHand hlt (x - 1)).fr0 ((Fr.refl NoF _).drewN d')) rfl
          clear e2
          have hkx : IntKind.i64.wrap ((x : Int) - 1) = (x : Int) - 1 := IntWalk.i64_in _ (by omega)
          obtain ⟨W1, hW1⟩ : ∃ W1, W1 = (wr.setCell ⟨pb, 4 + h, none⟩ (.int .i64 ((x : Int) - 1))).drew := ⟨_, rfl⟩
          have ⟨d3, d4, ld⟩ : W1.cell? ⟨pb, 3, none⟩ = some (.slice a (z - 1) c0) ∧ W1.cell? ⟨pb, 4 + h, none⟩ = some (.int .i64 ((x : Int) - 1)) ∧ pb < W1.heap.size := by
            refine ⟨?_, ?_, ?_⟩
            · rw [hW1]; show (wr.setCell _ _).cell? _ = _; rw [World.cell?_setCell_other _ _ _ _ (by intro q; simp only [Addr.mk.injEq] at q; omega)]; exact c3
            · rw [hW1]; show (wr.setCell _ _).cell? _ = _; rw [World.cell?_setCell_same _ _ _ ch]
            · rw [hW1]; show pb < (wr.setCell _ _).heap.size; simpa using lb
          have HW1 := Lib.hid hW1
          clear hW1
          go_wp2
          go_still_tail 11, (by kernel_rfl)
          go_wp2
          rw [← HW1.out]
          go_still (by kernel_rfl)
          go_wp2
          go_roundg (3 - (h + 1))
          case measure => omega
          case rel => exact ⟨h + 1, by omega, rfl, rfl, by rw [HW1.out]; exact ST.out 1 1⟩
        · rw [if_neg e1] at DN
          by_cases e2 : z - 1 ≤ x
          · rw [if_pos e2] at DN
            have ST : Hid (∀ d d', RS w0 F pb gb ob n (((wr.drewN d).setCell ⟨pb, 4 + h, none⟩ (.int .i64 0)).drewN d') (s.part i (h + 1))) := fun d d' => DN.out _ 0 (((HR.out.fr0 ((Fr.refl NoF wr).drewN d)).setHand hlt 0).fr0 ((Fr.refl NoF _).drewN d')) rfl
            go_wp2
            go_still (by kernel_rfl)
            go_wp2
            go_roundg (3 - (h + 1))
            case measure => omega
            case rel => exact ⟨h + 1, by omega, rfl, rfl, ST.out 0 1⟩
          · rw [if_neg e2] at DN
            have ST : Hid (∀ d, RS w0 F pb gb ob n (wr.drewN d) (s.part i (h + 1))) := fun d => DN.out _ x (by
              refine (HR.out.fr0 ((Fr.refl NoF wr).drewN d)).hands rfl rfl rfl rfl (fun j hj => ?_)
              by_cases ej : j = h
              · subst ej; show upd _ _ _ _ = _; rw [upd_same]; show x = (if _ then _ else _)
                rw [if_neg (by omega)]
                exact EX.out.symm
              · show upd _ _ _ _ = _; rw [upd_other _ _ ej]) rfl
            go_wp2
            go_still (by kernel_rfl)
            go_wp2
            go_roundg (3 - (h + 1))
            case measure => omega
            case rel => exact ⟨h + 1, by omega, rfl, rfl, ST.out 1⟩
      · obtain rfl : h = 3 := by omega
        have FIN : Hid (RS w0 F pb gb ob n wr (s.drop i)) := hr.hands rfl rfl rfl rfl (fun j hj => by
          show _ = (if j < 3 then _ else _)
          rw [if_pos hj]; rfl)
        clear hr HR
        go_wp2
        go_returns
        exact ⟨rfl, FIN.out⟩
end
end Go.Proofs.Ytoainbdkhhblbaa
namespace Go.Proofs.Ytoainbdkhhblbaa
open Go.RowKit
set_option linter.unusedVariables false

section
variable {P : Program} {Q : Exit → Act → World → Prop}

/-- What is asked behind the others. -/
def tailQ (P : Program) (ops : Array Oper) (last : Oper) (Q : Exit → Act → World → Prop) : Exit → Act → World → Prop
  | .normal, a, w => wpList P ops Q [last] a w
  | e, a, w => Q e a w

/-- The last operation waits for each other one, or for one that waits for it; each waits but for such as stand ahead of it; no guard is a later one. -/
def tailOk (md : Region.Mode) (l : List Oper) (last : Oper) : Bool :=
  ((List.range l.length).all fun i => (last.after.any fun e => Region.binds md e && e.on == i) || (List.range l.length).any fun j => decide (i < j) && match l[j]? with | none => false | some o => o.after.any fun e => Region.binds md e && e.on == i) &&
  ((List.range l.length).all fun i => match l[i]? with
    | none => false
    | some o => (o.after.all fun e => decide (e.on < i)) && (match o.guard with | none => true | some (g, _) => decide (g < l.length))) &&
  (last.after.all fun e => decide (e.on < l.length)) && (match last.guard with | none => true | some (g, _) => decide (g < l.length))
/-- What has come up waits for nothing that hasn't. -/
def ClT (md : Region.Mode) (l : List Oper) (d : Array Bool) : Prop := ∀ (j : Nat) (o : Oper), l[j]? = some o → d.getD j false = true → ∀ e ∈ o.after, Region.binds md e = true → d.getD e.on false = true

variable {md : Region.Mode} {l : List Oper} {last : Oper}

theorem tail_wait (h : tailOk md l last = true) {i : Nat} (hi : i < l.length) : (∃ e ∈ last.after, Region.binds md e = true ∧ e.on = i) ∨ ∃ j o, i < j ∧ l[j]? = some o ∧ ∃ e ∈ o.after, Region.binds md e = true ∧ e.on = i := by
  simp only [tailOk, Bool.and_eq_true, List.all_eq_true, List.mem_range] at h
  rcases Bool.or_eq_true _ _ |>.mp (h.1.1.1 i hi) with q | q
  · obtain ⟨e, he, hb⟩ := Array.any_eq_true'.1 q
    simp only [Bool.and_eq_true, beq_iff_eq] at hb
    exact .inl ⟨e, he, hb⟩
  · obtain ⟨j, hj, q⟩ := List.any_eq_true.1 q
    simp only [Bool.and_eq_true, decide_eq_true_eq] at q
    obtain ⟨q1, q2⟩ := q
    cases e : l[j]? with
    | none => rw [e] at q2; cases q2
    | some o =>
      rw [e] at q2
      obtain ⟨e', he, hb⟩ := Array.any_eq_true'.1 q2
      simp only [Bool.and_eq_true, beq_iff_eq] at hb
      exact .inr ⟨j, o, q1, e, e', he, hb⟩
theorem tail_edges (h : tailOk md l last = true) {i : Nat} {o : Oper} (ho : l[i]? = some o) : (∀ e ∈ o.after, e.on < i) ∧ ∀ g b, o.guard = some (g, b) → g < l.length := by
  simp only [tailOk, Bool.and_eq_true, List.all_eq_true, List.mem_range] at h
  have := h.1.1.2 i (List.getElem?_eq_some_iff.1 ho).1
  rw [ho] at this
  simp only [Bool.and_eq_true] at this
  refine ⟨fun e he => by simpa using Array.all_eq_true'.1 this.1 e he, fun g b hg => ?_⟩
  rw [hg] at this
  simpa using this.2
theorem tail_last (h : tailOk md l last = true) : (∀ e ∈ last.after, e.on < l.length) ∧ ∀ g b, last.guard = some (g, b) → g < l.length := by
  simp only [tailOk, Bool.and_eq_true] at h
  refine ⟨fun e he => by simpa using Array.all_eq_true'.1 h.1.2 e he, fun g b hg => ?_⟩
  have := h.2
  rw [hg] at this
  simpa using this

theorem getD_push (d : Array Bool) (j : Nat) (hj : j < d.size) (x b : Bool) : (d.push b).getD j x = d.getD j x := by
  simp [hj, Nat.lt_succ_of_lt hj, Array.getElem_push_lt]
theorem getD_push_at (d : Array Bool) (x b : Bool) : (d.push b).getD d.size x = b := by simp
theorem set_push (d : Array Bool) (i : Nat) (hi : i < d.size) (b : Bool) : (d.push b).setIfInBounds i true = (d.setIfInBounds i true).push b := by
  apply Array.ext_getElem?
  intro j
  simp only [Array.getElem?_setIfInBounds, Array.getElem?_push, Array.size_setIfInBounds, Array.size_push]
  by_cases e : i = j
  · subst e
    have h1 : i < d.size + 1 := by omega
    have h2 : ¬ i = d.size := by omega
    simp [hi, h1, h2]
  · simp [e]

theorem get_app {i : Nat} (hi : i < l.length) : (l ++ [last])[i]? = l[i]? := List.getElem?_append_left hi

theorem ready_in {d : Array Bool} (hd : d.size = l.length) {i : Nat} (hi : i < l.length) (h : tailOk md l last = true) :
    i ∈ Region.ready md (l ++ [last]).toArray (d.push false) ↔ i ∈ Region.ready md l.toArray d := by
  rw [mem_ready, mem_ready, getD_push d i (by omega)]
  have e : ((l ++ [last]).toArray)[i]? = l.toArray[i]? := by simp [List.getElem?_append_left hi]
  rw [e]
  constructor
  · rintro ⟨h0, o, ho, ha⟩
    refine ⟨h0, o, ho, fun e he hb => ?_⟩
    have hlt := (tail_edges h (by simpa using ho)).1 e he
    have := ha e he hb
    rwa [getD_push d e.on (by omega)] at this
  · rintro ⟨h0, o, ho, ha⟩
    refine ⟨h0, o, ho, fun e he hb => ?_⟩
    have hlt := (tail_edges h (by simpa using ho)).1 e he
    rw [getD_push d e.on (by omega)]
    exact ha e he hb
/-- Where none may come up, all have. -/
theorem all_listed {d : Array Bool} (hd : d.size = l.length) (h : tailOk md l last = true) (hr : Region.ready md l.toArray d = []) : ∀ i, i < l.length → d.getD i false = true := by
  intro i
  induction i using Nat.strongRecOn with
  | _ i ih =>
    intro hi
    cases e : d.getD i false with
    | true => rfl
    | false =>
      have hm : i ∈ Region.ready md l.toArray d := by
        rw [mem_ready]
        refine ⟨?_, l[i], by simp, fun e' he hb => ?_⟩
        · have : i < d.size := by omega
          simpa [this] using e
        · have hlt := (tail_edges h (List.getElem?_eq_getElem hi)).1 e' he
          exact ih e'.on hlt (by omega)
      rw [hr] at hm; cases hm
theorem last_ready {d : Array Bool} (hd : d.size = l.length) (h : tailOk md l last = true) (hc : ClT md l d) : l.length ∈ Region.ready md (l ++ [last]).toArray (d.push false) ↔ ∀ i, i < l.length → d.getD i false = true := by
  rw [mem_ready]
  constructor
  · rintro ⟨_, o, ho, ha⟩
    have : o = last := by simpa using ho.symm
    subst this
    have key : ∀ k i, l.length - i = k → i < l.length → d.getD i false = true := by
      intro k
      induction k using Nat.strongRecOn with
      | _ k ih =>
        intro i hk hi
        rcases tail_wait h hi with ⟨e, he, hb, rfl⟩ | ⟨j, o', hij, hj, e, he, hb, rfl⟩
        · have := ha e he hb
          rwa [getD_push d e.on (by omega)] at this
        · have hjl := (List.getElem?_eq_some_iff.1 hj).1
          exact hc j o' hj (ih (l.length - j) (by omega) j rfl hjl) e he hb
    exact fun i hi => key _ i rfl hi
  · intro hall
    refine ⟨by rw [← hd]; exact getD_push_at d true false, last, by simp, fun e he hb => ?_⟩
    have hlt := (tail_last h).1 e he
    rw [getD_push d e.on (by omega)]
    exact hall e.on hlt
theorem ClT.set {d : Array Bool} (hd : d.size = l.length) (hc : ClT md l d) {i : Nat} (hi : i ∈ Region.ready md l.toArray d) : ClT md l (d.setIfInBounds i true) := by
  obtain ⟨h0, o, ho, ha⟩ := mem_ready.1 hi
  have hio : l[i]? = some o := by simpa using ho
  have up : ∀ k, d.getD k false = true → (d.setIfInBounds i true).getD k false = true := by
    intro k hk
    simp only [Array.getD_eq_getD_getElem?, Array.getElem?_setIfInBounds] at *
    split
    · split <;> simp_all
    · exact hk
  intro j o' hj hdj e he hb
  by_cases e' : i = j
  · subst e'
    rw [hio] at hj
    injection hj with hj
    subst hj
    exact up _ (ha e he hb)
  · refine up _ (hc j o' hj ?_ e he hb)
    simp only [Array.getD_eq_getD_getElem?, Array.getElem?_setIfInBounds, if_neg e'] at hdj
    simpa [Array.getD_eq_getD_getElem?] using hdj

theorem yielded_in (tmps : Array Value) {g : Nat} (hg : g < l.length) : yielded (l ++ [last]).toArray tmps g = yielded l.toArray tmps g := by
  unfold yielded
  rw [show ((l ++ [last]).toArray)[g]? = l.toArray[g]? from by simp [List.getElem?_append_left hg]]
theorem wanted_in (tmps : Array Value) {o : Oper} (ho : ∀ g b, o.guard = some (g, b) → g < l.length) : Region.wanted o (yielded (l ++ [last]).toArray tmps) = Region.wanted o (yielded l.toArray tmps) := by
  unfold Region.wanted
  cases e : o.guard with
  | none => rfl
  | some x =>
    obtain ⟨g, b⟩ := x
    simp only [yielded_in tmps (ho g b e)]

theorem wp_tailQ {ops : Array Oper} {o : Oper} {a : Act} {w : World} {K : Act → World → Prop} (h : o.wp P a w K (tailQ P ops last Q)) : o.wp P a w K Q := by
  unfold Oper.wp at *
  generalize (execOp a.eval o).run P w = r at *
  cases r with
  | ok n w' =>
    cases n <;> simp only [Oper.upon] at h ⊢ <;>
      first
        | exact h
        | exact Calls.mono h (fun e w'' he => by cases e <;> exact he)
  | halt x w' => cases x <;> simp only [Oper.upon] at h ⊢ <;> exact h
theorem wpOp_tail {i : Nat} (hi : i < l.length) (hok : tailOk md l last = true) {a : Act} {w : World} {K K' : Act → World → Prop} (hK : ∀ a w, K a w → K' a w)
    (h : wpOp P l.toArray (tailQ P (l ++ [last]).toArray last Q) i K a w) : wpOp P (l ++ [last]).toArray Q i K' a w := by
  refine wpOp_mono hK ?_
  unfold wpOp at *
  rw [show ((l ++ [last]).toArray)[i]? = l.toArray[i]? from by simp [List.getElem?_append_left hi]]
  cases e : l.toArray[i]? with
  | none => rw [e] at h; exact h
  | some o =>
    rw [e] at h
    simp only at h ⊢
    rw [wanted_in a.tmps (tail_edges hok (by simpa using e)).2]
    split
    · rename_i hw
      rw [if_pos hw] at h
      exact h.imp wp_tailQ id
    · rename_i hw
      rw [if_neg hw] at h
      exact h
theorem wpOp_last {a : Act} {w : World} (h : wpList P (l ++ [last]).toArray Q [last] a w) {K : Act → World → Prop} (hK : ∀ a w, Q .normal a w → K a w) : wpOp P (l ++ [last]).toArray Q l.length K a w := by
  unfold wpOp
  rw [show ((l ++ [last]).toArray)[l.length]? = some last from by simp]
  simp only [wpList] at h ⊢
  split
  · rename_i hw
    rw [if_pos hw] at h
    exact h.imp (Oper.wp_mono hK) id
  · rename_i hw
    rw [if_neg hw] at h
    exact hK _ _ h

theorem wpAny_tail (hok : tailOk md l last = true) : ∀ (fuel : Nat) (d : Array Bool) (a : Act) (w : World), d.size = l.length → ClT md l d →
    wpAny P md l.toArray (tailQ P (l ++ [last]).toArray last Q) fuel d a w → wpAny P md (l ++ [last]).toArray Q (fuel + 1) (d.push false) a w := by
  have fin : ∀ (fuel : Nat) (d : Array Bool) (a : Act) (w : World), d.size = l.length → ClT md l d → Region.ready md l.toArray d = [] → wpList P (l ++ [last]).toArray Q [last] a w →
      wpAny P md (l ++ [last]).toArray Q (fuel + 1) (d.push false) a w := by
    intro fuel d a w hd hc hr hl
    have hall := all_listed (last := last) hd hok hr
    have hlr := (last_ready hd hok hc).2 hall
    refine ⟨fun h0 => (by rw [h0] at hlr; cases hlr), fun i hi => ?_⟩
    have hil : i = l.length := by
      rcases Nat.lt_or_ge i l.length with q | q
      · rw [ready_in hd q hok, hr] at hi; cases hi
      · obtain ⟨_, o, ho, _⟩ := mem_ready.1 hi
        have : i < (l ++ [last]).toArray.size := (Array.getElem?_eq_some_iff.1 ho).1
        simp at this; omega
    subst hil
    refine wpOp_last hl (fun a' w' hq => ?_)
    have hset : (d.push false).setIfInBounds l.length true = d.push true := by
      apply Array.ext_getElem?
      intro j
      simp only [Array.getElem?_setIfInBounds, Array.getElem?_push, Array.size_push]
      by_cases e : l.length = j
      · subst e
        have h2 : l.length = d.size := hd.symm
        simp [h2]
      · have h3 : ¬ j = d.size := by omega
        simp [e, h3]
    have hnil : Region.ready md (l ++ [last]).toArray (d.push true) = [] := by
      rw [List.eq_nil_iff_forall_not_mem]
      intro j hj
      obtain ⟨h0, o, ho, _⟩ := mem_ready.1 hj
      have hj' : j < (l ++ [last]).toArray.size := (Array.getElem?_eq_some_iff.1 ho).1
      simp at hj'
      rcases Nat.lt_or_ge j l.length with q | q
      · have h1 := hall j q
        rw [getD_push d j (by omega)] at h0
        have : j < d.size := by omega
        simp [this] at h0 h1
        rw [h0] at h1; cases h1
      · obtain rfl : j = d.size := by omega
        rw [getD_push_at] at h0; cases h0
    rw [hset]
    cases fuel with
    | zero => exact ⟨hnil, hq⟩
    | succ f => exact ⟨fun _ => hq, by rw [hnil]; simp⟩
  intro fuel
  induction fuel with
  | zero => intro d a w hd hc h; exact fin 0 d a w hd hc h.1 h.2
  | succ fuel ih =>
    intro d a w hd hc h
    by_cases hr : Region.ready md l.toArray d = []
    · exact fin (fuel + 1) d a w hd hc hr (h.1 hr)
    · refine ⟨fun h0 => ?_, fun i hi => ?_⟩
      · obtain ⟨j, hj⟩ := List.exists_mem_of_ne_nil _ hr
        have hjl : j < l.length := by
          obtain ⟨_, o, ho, _⟩ := mem_ready.1 hj
          have := (Array.getElem?_eq_some_iff.1 ho).1
          simpa using this
        have := (ready_in hd hjl hok).2 hj
        rw [h0] at this; cases this
      · rcases Nat.lt_or_ge i l.length with q | q
        · have hi' := (ready_in hd q hok).1 hi
          refine wpOp_tail q hok (fun a' w' hh => ?_) (h.2 i hi')
          rw [set_push d i (by omega)]
          exact ih _ a' w' (by simp [hd]) (hc.set hd hi') hh
        · obtain ⟨_, o, ho, _⟩ := mem_ready.1 hi
          have h2 : i < (l ++ [last]).toArray.size := (Array.getElem?_eq_some_iff.1 ho).1
          have hil : i = l.length := by simp at h2; omega
          subst hil
          have hall := (last_ready hd hok hc).1 hi
          have : Region.ready md l.toArray d = [] := by
            rw [List.eq_nil_iff_forall_not_mem]
            intro j hj
            obtain ⟨h0, o, ho, _⟩ := mem_ready.1 hj
            have hj' : j < l.toArray.size := (Array.getElem?_eq_some_iff.1 ho).1
            have hj'' : j < l.length := by simpa using hj'
            have h1 := hall j hj''
            have : j < d.size := by omega
            simp [this] at h0 h1
            rw [h0] at h1; cases h1
          exact (hr this).elim

/-- The beginning of such a region, held to S: the others first. -/
theorem region_tail (S : World → Prop) (n : Nat) {id : Nat} {l : List Oper} {last : Oper} {a : Act} {w : World} (hm : P.follows .mixedOrders = true) (hn : l = l.take n ++ [last]) (hln : (l.take n).length = n) (hok : tailOk .any (l.take n) last = true)
    (h : wpAnyH P .any (l.take n).toArray (tailQ P l.toArray last Q) S n (Array.replicate n false) a w.drew) : (Code.region id l.toArray true).wp P Q a w := by
  refine wp_region_any hm ?_
  have h1 := wpAny_tail (P := P) (Q := Q) (md := .any) hok n (Array.replicate n false) a w.drew (by simp [hln]) (fun j o _ hd => by simp [Array.getD_eq_getD_getElem?, Array.getElem?_replicate] at hd; split at hd <;> cases hd) (by rw [← hn]; exact wpAny_of_held _ _ _ _ h)
  rw [← hn] at h1
  have e1 : l.toArray.size = n + 1 := by
    have e0 := congrArg List.length hn
    rw [List.length_append, hln] at e0
    simpa using e0
  have e2 : (Array.replicate n false).push false = Array.replicate (n + 1) false := by
    apply Array.ext_getElem?
    intro j
    simp only [Array.getElem?_push, Array.getElem?_replicate, Array.size_replicate]
    by_cases e : j = n
    · subst e; simp
    · by_cases h2 : j < n
      · have : j < n + 1 := by omega
        simp [e, h2, this]
      · have : ¬ j < n + 1 := by omega
        simp [e, h2, this]
  rw [e2] at h1
  rw [e1]
  exact h1
end
end Go.Proofs.Ytoainbdkhhblbaa
namespace Go.Proofs.Ytoainbdkhhblbaa
open Go.RowKit
set_option linter.unusedVariables false
set_option linter.unusedSimpArgs false

def enA (x : En) : Array Value := #[.int .u32 (x.pg : Nat), .int .i64 x.fr, .bool x.hot, .bool x.ref, .bool x.test]
def PrS.lpart (s : PrS) (x : En) (h : Nat) : PrS := { s with L := insE s.L (s.hd 0) x, hd := fun j => if j < h then (if s.hd 0 ≤ s.hd j then s.hd j + 1 else s.hd j) else s.hd j }
section
variable {w w' w0 : World} {pb gb ob n m : Nat} {F : Nat → Prop} {s : PrS} {lv : Value}
theorem RQ.tail0 {b off c i : Nat} (h : RQ w pb gb ob n s (.slice (some ⟨b, off, none⟩) s.L.length c)) (hi : i < s.L.length) : SlC w 5 (.slice (some ⟨b, off + i * 5, none⟩) (s.L.length - i) (c - i)) (s.L.length - i) (ensC (s.L.drop i)) := by
  have hs := SlC.ofOwn h.own (ensC_one _)
  obtain ⟨_, _, e2, h1, h2⟩ := hs.shape
  simp only [Value.slice.injEq] at e2
  obtain ⟨_, _, rfl⟩ := e2
  obtain ⟨b', off', e2, hs2⟩ := hs.cut (lo := i) (hi := s.L.length) (by omega) (Nat.le_refl _) rfl (by omega)
  simp only [Option.some.injEq, Addr.mk.injEq] at e2
  obtain ⟨rfl, rfl, _⟩ := e2
  have e3 : ((ensC s.L).drop (i * 5)).take ((s.L.length - i) * 5) = ensC (s.L.drop i) := by
    rw [ensC_drop, List.take_of_length_le (by rw [ensC_len, List.length_drop]; omega)]
  rw [e3] at hs2
  exact hs2
theorem _root_.Go.World.ownsRow.lower {w : World} {base base' e size n : Nat} {v : Value} {xs : List Value} (h : w.ownsRow base e size v n xs) (hb : base' ≤ base) : w.ownsRow base' e size v n xs := by
  obtain ⟨h1, h2⟩ := h
  refine ⟨h1, h2.imp id ?_⟩
  rintro ⟨g, cap, cur, e1, hg, r⟩
  exact ⟨g, cap, cur, e1, Nat.le_trans hb hg, r⟩
set_option maxRecDepth 100000 in
set_option maxHeartbeats 4000000 in
theorem q_lay0 (h : RS w0 F pb gb ob n w s) (h0 : s.L = []) (x : En) : Calls Try.prog 52 #[.pointer (some ⟨pb, 0, none⟩), .agg (enA x)] w fun e w' => e = .returned (.tuple #[]) ∧ RS w0 F pb gb ob n w' (s.lay x) := by
  obtain ⟨⟨lv, h1, h2⟩, h3, h4⟩ := h
  obtain ⟨a, c, rfl, q1, q2⟩ := h1.shape
  have c3 : w.cell? ⟨pb, 3, none⟩ = some (.slice a s.L.length c) := h1.c 3 (by omega)
  rw [h0] at c3
  replace c3 : w.cell? ⟨pb, 3, none⟩ = some (.slice a 0 c) := c3
  have ch : w.cell? ⟨pb, 4, none⟩ = some (.int .i64 (s.hd 0 : Nat)) := h1.hand (j := 0) (by omega)
  have ch1 : w.cell? ⟨pb, 5, none⟩ = some (.int .i64 (s.hd 1 : Nat)) := h1.hand (j := 1) (by omega)
  have ch2 : w.cell? ⟨pb, 6, none⟩ = some (.int .i64 (s.hd 2 : Nat)) := h1.hand (j := 2) (by omega)
  have lb := h1.hd.lt
  have fz : ∀ i, w.frozen? ⟨pb, i, none⟩ = false := fun i => h1.hd.frozen i
  obtain ⟨pg, fr, hot, ref, test⟩ := x
  have FIN : Hid (∀ W, W = ((w.alloc (.cells (enA ⟨pg, fr, hot, ref, test⟩) 74)).alloc (.cells (enA ⟨pg, fr, hot, ref, test⟩) 74)) → RS w0 F pb gb ob n ((((W.setCell ⟨pb, 3, none⟩ (.slice (some ⟨w.heap.size + 1, 0, none⟩) 1 1)).setCell ⟨pb, 4, none⟩ (.int .i64 0)).setCell ⟨pb, 5, none⟩ (.int .i64 0)).setCell ⟨pb, 6, none⟩ (.int .i64 0)) (s.lay ⟨pg, fr, hot, ref, test⟩)) := by
    intro W eW
    have f : Fr NoF w W := by rw [eW]; exact ((Fr.refl NoF w).alloc _).alloc _
    have hr := (h1.fr0 f).setRow (l := [⟨pg, fr, hot, ref, test⟩]) (lv' := .slice (some ⟨w.heap.size + 1, 0, none⟩) 1 1) (by
      have := own_new (w0 := w) (w := w.alloc (.cells (enA ⟨pg, fr, hot, ref, test⟩) 74)) (by have := ((Fr.refl NoF w).alloc (.cells (enA ⟨pg, fr, hot, ref, test⟩) 74)).size; exact this) (enA ⟨pg, fr, hot, ref, test⟩) 74 5 1 (w.heap.size + 1) (by exact (Array.size_push _).symm) rfl (by unfold maxLen; omega)
      rw [← eW] at this
      exact SlF.of (l := [⟨pg, fr, hot, ref, test⟩]) this) (fun b q => h1.new (by simp [Value.ownBlock] at q; omega)) (by show 1 < 4000; omega)
    have hq : RS w0 F pb gb ob n (W.setCell ⟨pb, 3, none⟩ (.slice (some ⟨w.heap.size + 1, 0, none⟩) 1 1)) { s with L := [⟨pg, fr, hot, ref, test⟩] } :=
      ⟨⟨_, hr, fun b q => .inr (by have := h3.size; simp [Value.ownBlock] at q; omega)⟩, (h3.trans f (fun _ q => q.elim)).setCell (p := ⟨pb, 3, none⟩) (.inl h4.1) _, h4⟩
    refine (((hq.setHand (j := 0) (by omega) 0).setHand (j := 1) (by omega) 0).setHand (j := 2) (by omega) 0).hands ?_ ?_ ?_ ?_ ?_
    · unfold PrS.lay; rw [if_pos h0]
    · exact lay_pg.1
    · exact lay_pg.2.1
    · exact lay_pg.2.2
    · intro j hj
      unfold PrS.lay; rw [if_pos h0]
      match j, hj with
      | 0, _ | 1, _ | 2, _ => rfl
  clear h1 h2 h3 h4 q1 q2 h0
  unfold enA at *
  generalize s.hd 0 = x0 at *
  generalize s.hd 1 = x1 at *
  generalize s.hd 2 = x2 at *
  go_enter Try.func52, Try.ntmps52
  go_wp2
  go_returns
  have K := FIN.out _ rfl
  repeat rw [World.setCell_alloc_past _ _ _ _ (by first | exact lb | exact Nat.lt_of_lt_of_le lb (by simp; omega) | (simp; omega))] at K
  exact ⟨rfl, K⟩

set_option maxRecDepth 100000 in
set_option maxHeartbeats 8000000 in
theorem q_lay1 (h : RS w0 F pb gb ob n w s) (hh : s.hd 0 < s.L.length) (hhb : ∀ j, j < 3 → s.hd j < s.L.length) (hm : s.L.length + 1 < 4000) (x : En) : Calls Try.prog 52 #[.pointer (some ⟨pb, 0, none⟩), .agg (enA x)] w fun e w' => e = .returned (.tuple #[]) ∧ RS w0 F pb gb ob n w' (s.lay x) := by
  obtain ⟨⟨lv, h1, h2⟩, h3, h4⟩ := h
  obtain ⟨y0, hy0⟩ : ∃ y, s.L[s.hd 0]? = some y := ⟨_, List.getElem?_eq_getElem hh⟩
  obtain ⟨b, c, rfl, q1, q2, lb, -⟩ := h1.at hy0
  obtain ⟨off, hoff⟩ : ∃ o : Nat, o = 0 := ⟨0, rfl⟩
  rw [show (⟨b, 0, none⟩ : Addr) = ⟨b, off, none⟩ from by rw [hoff]] at h1 h2
  clear hoff hy0 y0
  unfold maxLen at q2
  have ch : w.cell? ⟨pb, 4, none⟩ = some (.int .i64 (s.hd 0 : Nat)) := h1.hand (j := 0) (by omega)
  have c3 : w.cell? ⟨pb, 3, none⟩ = some (.slice (some ⟨b, off, none⟩) s.L.length c) := h1.c 3 (by omega)
  have lp := h1.hd.lt
  have fB : Fr NoF w (w.alloc (.cells (enA x) 74)) := (Fr.refl NoF w).alloc _
  have bB : ∀ k (hk : k < 5), (w.alloc (.cells (enA x) 74)).cell? ⟨w.heap.size, k, none⟩ = some (enC x k) := fun k hk => by
    have := (Blk.new w (enA x) 74 5 (enC x) w.heap.size rfl rfl (fun i hi => by match i, hi with
      | 0, _ | 1, _ | 2, _ | 3, _ | 4, _ => rfl)).cell hk
    exact this
  have HFI : Hid (∀ W, Fr NoF (w.alloc (.cells (enA x) 74)) W → SlC W 5 (.slice (some ⟨b, off, none⟩) (s.hd 0) c) (s.hd 0) (ensC (s.L.take (s.hd 0)))) := fun W f => (h1.head hh).keep (fB.trans f (fun _ q => q.elim))
  have hLA2 : Hid (∀ W, Fr NoF (w.alloc (.cells (enA x) 74)) W → SlC W 5 (.slice (some ⟨b, off + s.hd 0 * 5, none⟩) (s.L.length - s.hd 0) (c - s.hd 0)) (s.L.length - s.hd 0) (ensC (s.L.drop (s.hd 0)))) := fun W f => (h1.tail0 hh).keep (fB.trans f (fun _ q => q.elim))
  have KC : Hid (∀ W, Fr NoF (w.alloc (.cells (enA x) 74)) W → W.cell? ⟨pb, 3, none⟩ = some (.slice (some ⟨b, off, none⟩) s.L.length c) ∧ W.frozen? ⟨pb, 3, none⟩ = false ∧ pb < W.heap.size ∧ W.cell? ⟨w.heap.size, 0, none⟩ = some (.int .u32 (x.pg : Nat)) ∧ W.cell? ⟨w.heap.size, 1, none⟩ = some (.int .i64 x.fr) ∧ W.cell? ⟨w.heap.size, 2, none⟩ = some (.bool x.hot) ∧ W.cell? ⟨w.heap.size, 3, none⟩ = some (.bool x.ref) ∧ W.cell? ⟨w.heap.size, 4, none⟩ = some (.bool x.test) ∧ w.heap.size < W.heap.size) := fun W f => by
    have g := fB.trans f (fun _ q => q.elim)
    have hs : w.heap.size < (w.alloc (.cells (enA x) 74)).heap.size := by simp
    refine ⟨(h1.fr0 g).c 3 (by omega), (h1.fr0 g).hd.frozen 3, (h1.fr0 g).hd.lt, ?_, ?_, ?_, ?_, ?_, Nat.lt_of_lt_of_le hs f.size⟩
    · rw [f.cell (p := ⟨w.heap.size, 0, none⟩) hs id]; exact bB 0 (by omega)
    · rw [f.cell (p := ⟨w.heap.size, 1, none⟩) hs id]; exact bB 1 (by omega)
    · rw [f.cell (p := ⟨w.heap.size, 2, none⟩) hs id]; exact bB 2 (by omega)
    · rw [f.cell (p := ⟨w.heap.size, 3, none⟩) hs id]; exact bB 3 (by omega)
    · rw [f.cell (p := ⟨w.heap.size, 4, none⟩) hs id]; exact bB 4 (by omega)
  have HO1 : Hid (∀ u ∈ ensC (s.L.take (s.hd 0)), u.oneCell' = true) := ensC_one _
  have HO2 : Hid (∀ u ∈ ensC (s.L.drop (s.hd 0)), u.oneCell' = true) := ensC_one _
  have HO3 : Hid (∀ u ∈ enL x, u.oneCell' = true) := fun u hu => ensC_one [x] u (by simpa [ensC] using hu)
  have FIN : Hid (∀ W v, W.ownsRow w.heap.size 74 5 v (s.hd 0 + 1 + (s.L.length - s.hd 0)) (ensC (s.L.take (s.hd 0)) ++ enL x ++ ensC (s.L.drop (s.hd 0))) → Fr NoF (w.alloc (.cells (enA x) 74)) W → RS w0 F pb gb ob n (W.setCell ⟨pb, 3, none⟩ v) (s.lpart x 0)) := by
    intro w6 v6 hown f0
    have f := fB.trans f0 (fun _ q => q.elim)
    have hlen : (insE s.L (s.hd 0) x).length = s.hd 0 + 1 + (s.L.length - s.hd 0) := by rw [ins_len]; omega
    have hens : ensC (insE s.L (s.hd 0) x) = ensC (s.L.take (s.hd 0)) ++ enL x ++ ensC (s.L.drop (s.hd 0)) := by
      unfold insE; rw [ensC_app, List.append_assoc]; rfl
    rw [← hens, ← hlen] at hown
    have hb := ownBlock_own hown
    have hr := (h1.fr0 f).setRow (SlF.of hown) (fun b q => h1.new (hb b q)) (by rw [ins_len]; omega)
    exact ⟨⟨v6, hr.hands rfl rfl rfl rfl (fun j hj => rfl), fun b q => .inr (Nat.le_trans h3.size (hb b q))⟩, (h3.trans f (fun _ q => q.elim)).setCell (p := ⟨pb, 3, none⟩) (.inl h4.1) _, h4⟩
  have hsB : (w.alloc (.cells (enA x) 74)).heap.size = w.heap.size + 1 := by exact Array.size_push _
  clear h1 h2 h3 h4 bB fB
  go_enter Try.func52, Try.ntmps52
  have hlz : (((s.L.length : Nat) : Int) == 0) = false := beq_false_of_ne (by omega)
  go_upto_region 5 with fail
  clear ch c3 lp hlz
  generalize w.alloc _ = wB at *
  generalize hbx : w.heap.size = bx at *
  clear hbx
  generalize hex : s.hd 0 = i at *
  have EX := Lib.hid hex
  clear hex
  obtain ⟨c3, f3, lp, b0, b1, b2, b3, b4, lbx⟩ := KC.out wB (Fr.refl _ _)
  have HOW : Hid (∀ W g, (∃ Wa, Fr NoF (Wa.alloc (.cells #[] 74)) W ∧ g = Wa.heap.size ∧ Fr NoF wB Wa) → W.ownsRow wB.heap.size 74 5 (.slice (some ⟨g, 0, none⟩) 0 0) 0 []) := fun W g ⟨Wa, f2, e, f1⟩ => by
    have := own_keep (own_new (w0 := wB) (w := Wa) f1.size #[] 74 5 0 g e rfl (by unfold maxLen; omega)) f2 (fun _ _ q => q)
    exact this
  have HXW : Hid (∀ W g, (∃ Wa, Fr NoF (Wa.alloc (.cells (enA x) 74)) W ∧ g = Wa.heap.size ∧ Fr NoF wB Wa) → SlC W 5 (.slice (some ⟨g, 0, none⟩) 1 1) 1 (enL x)) := fun W g ⟨Wa, f2, e, f1⟩ => by
    have := own_keep (own_new (w0 := wB) (w := Wa) f1.size (enA x) 74 5 1 g e rfl (by unfold maxLen; omega)) f2 (fun _ _ q => q)
    exact SlC.ofOwn this HO3.out
  clear hsB
  have hkc : i ≤ c := by omega
  have hk1 : i ≤ s.L.length := by omega
  have hne : ¬ c = i := by omega
  have hne2 : ¬ c - i = 0 := by omega
  unfold enA at *
  have KS : Hid (∀ W, Fr NoF wB W → (fun w' => w'.cell? ⟨pb, 3, none⟩ = some (.slice (some ⟨b, off, none⟩) s.L.length c) ∧ w'.cell? ⟨bx, 0, none⟩ = some (.int .u32 (x.pg : Nat)) ∧ w'.cell? ⟨bx, 1, none⟩ = some (.int .i64 x.fr) ∧ w'.cell? ⟨bx, 2, none⟩ = some (.bool x.hot) ∧ w'.cell? ⟨bx, 3, none⟩ = some (.bool x.ref) ∧ w'.cell? ⟨bx, 4, none⟩ = some (.bool x.test)) W) := fun W f => by
    obtain ⟨x1, _, _, x2, x3, x4, x5, x6, _⟩ := KC.out W f
    exact ⟨x1, x2, x3, x4, x5, x6⟩
  go_cut [4] (fun s4 wx => s4 = .int .i64 (i : Nat) ∧ RS w0 F pb gb ob n wx (s.lpart x 0))
  case first =>
    refine region_tail (fun w' => w'.cell? ⟨pb, 3, none⟩ = some (.slice (some ⟨b, off, none⟩) s.L.length c) ∧ w'.cell? ⟨bx, 0, none⟩ = some (.int .u32 (x.pg : Nat)) ∧ w'.cell? ⟨bx, 1, none⟩ = some (.int .i64 x.fr) ∧ w'.cell? ⟨bx, 2, none⟩ = some (.bool x.hot) ∧ w'.cell? ⟨bx, 3, none⟩ = some (.bool x.ref) ∧ w'.cell? ⟨bx, 4, none⟩ = some (.bool x.test)) 21 (by kernel_rfl) rfl rfl (by kernel_rfl) ?_
    simp only [List.take_succ_cons, List.take_zero]
    have hS : (fun w' => w'.cell? ⟨pb, 3, none⟩ = some (.slice (some ⟨b, off, none⟩) s.L.length c) ∧ w'.cell? ⟨bx, 0, none⟩ = some (.int .u32 (x.pg : Nat)) ∧ w'.cell? ⟨bx, 1, none⟩ = some (.int .i64 x.fr) ∧ w'.cell? ⟨bx, 2, none⟩ = some (.bool x.hot) ∧ w'.cell? ⟨bx, 3, none⟩ = some (.bool x.ref) ∧ w'.cell? ⟨bx, 4, none⟩ = some (.bool x.test)) wB.drew := ⟨c3, b0, b1, b2, b3, b4⟩
    refine wpAnyH_take (i := 0) (v := ?_) rfl (by decide +kernel) (by decide +kernel) (by decide +kernel) (fun _ _ _ h => h) (Or.inl ⟨by rfl, ?_⟩) hS ?_
    rotate_left
    · intro wS hSw; (try dsimp only at hSw); go_simp
      try with_reducible rfl
    try simp only [Act.put, List.setIfInBounds_toArray, List.set_cons_zero, List.set_cons_succ]
    refine wpAnyH_take (i := 2) (v := ?_) rfl (by decide +kernel) (by decide +kernel) (by decide +kernel) (fun _ _ _ h => h) (Or.inl ⟨by rfl, ?_⟩) hS ?_
    rotate_left
    · intro wS hSw; (try dsimp only at hSw); go_simp
      try with_reducible rfl
    try simp only [Act.put, List.setIfInBounds_toArray, List.set_cons_zero, List.set_cons_succ]
    refine wpAnyH_take (i := 3) (v := ?_) rfl (by decide +kernel) (by decide +kernel) (by decide +kernel) (fun _ _ _ h => h) (Or.inl ⟨by rfl, ?_⟩) hS ?_
    rotate_left
    · intro wS hSw; (try dsimp only at hSw); go_simp
      try with_reducible rfl
    try simp only [Act.put, List.setIfInBounds_toArray, List.set_cons_zero, List.set_cons_succ]
    refine wpAnyH_take (i := 4) (v := ?_) rfl (by decide +kernel) (by decide +kernel) (by decide +kernel) (fun _ _ _ h => h) (Or.inl ⟨by rfl, ?_⟩) hS ?_
    rotate_left
    · intro wS hSw; (try dsimp only at hSw); go_simp
      try with_reducible rfl
    try simp only [Act.put, List.setIfInBounds_toArray, List.set_cons_zero, List.set_cons_succ]
    refine wpAnyH_take (i := 5) (v := ?_) rfl (by decide +kernel) (by decide +kernel) (by decide +kernel) (fun _ _ _ h => h) (Or.inl ⟨by rfl, ?_⟩) hS ?_
    rotate_left
    · intro wS hSw; (try dsimp only at hSw); go_simp
      try with_reducible rfl
    try simp only [Act.put, List.setIfInBounds_toArray, List.set_cons_zero, List.set_cons_succ]
    refine wpAnyH_take (i := 6) (v := ?_) rfl (by decide +kernel) (by decide +kernel) (by decide +kernel) (fun _ _ _ h => h) (Or.inl ⟨by rfl, ?_⟩) hS ?_
    rotate_left
    · intro wS hSw; (try dsimp only at hSw); go_simp
      try with_reducible rfl
    try simp only [Act.put, List.setIfInBounds_toArray, List.set_cons_zero, List.set_cons_succ]
    refine wpAnyH_take (i := 7) (v := ?_) rfl (by decide +kernel) (by decide +kernel) (by decide +kernel) (fun _ _ _ h => h) (Or.inl ⟨by rfl, ?_⟩) hS ?_
    rotate_left
    · intro wS hSw; (try dsimp only at hSw); go_simp
      try with_reducible rfl
    try simp only [Act.put, List.setIfInBounds_toArray, List.set_cons_zero, List.set_cons_succ]
    refine wpAnyH_take (i := 9) (v := ?_) rfl (by decide +kernel) (by decide +kernel) (by decide +kernel) (fun _ _ _ h => h) (Or.inl ⟨by rfl, ?_⟩) hS ?_
    rotate_left
    · intro wS hSw; (try dsimp only at hSw); go_simp
      try with_reducible rfl
    try simp only [Act.put, List.setIfInBounds_toArray, List.set_cons_zero, List.set_cons_succ]
    refine wpAnyH_take (i := 12) (v := ?_) rfl (by decide +kernel) (by decide +kernel) (by decide +kernel) (fun _ _ _ h => h) (Or.inl ⟨by rfl, ?_⟩) hS ?_
    rotate_left
    · intro wS hSw; (try dsimp only at hSw); go_simp
      try with_reducible rfl
    try simp only [Act.put, List.setIfInBounds_toArray, List.set_cons_zero, List.set_cons_succ]
    refine wpAnyH_take (i := 13) (v := ?_) rfl (by decide +kernel) (by decide +kernel) (by decide +kernel) (fun _ _ _ h => h) (Or.inl ⟨by rfl, ?_⟩) hS ?_
    rotate_left
    · intro wS hSw; (try dsimp only at hSw); go_simp
      try with_reducible rfl
    try simp only [Act.put, List.setIfInBounds_toArray, List.set_cons_zero, List.set_cons_succ]
    refine wpAnyH_take (i := 14) (v := ?_) rfl (by decide +kernel) (by decide +kernel) (by decide +kernel) (fun _ _ _ h => h) (Or.inl ⟨by rfl, ?_⟩) hS ?_
    rotate_left
    · intro wS hSw; (try dsimp only at hSw); go_simp
      try with_reducible rfl
    try simp only [Act.put, List.setIfInBounds_toArray, List.set_cons_zero, List.set_cons_succ]
    refine wpAnyH_take (i := 15) (v := ?_) rfl (by decide +kernel) (by decide +kernel) (by decide +kernel) (fun _ _ _ h => h) (Or.inl ⟨by rfl, ?_⟩) hS ?_
    rotate_left
    · intro wS hSw; (try dsimp only at hSw); go_simp
      try with_reducible rfl
    try simp only [Act.put, List.setIfInBounds_toArray, List.set_cons_zero, List.set_cons_succ]
    refine wpAnyH_take (i := 16) (v := ?_) rfl (by decide +kernel) (by decide +kernel) (by decide +kernel) (fun _ _ _ h => h) (Or.inl ⟨by rfl, ?_⟩) hS ?_
    rotate_left
    · intro wS hSw; (try dsimp only at hSw); go_simp
      try with_reducible rfl
    try simp only [Act.put, List.setIfInBounds_toArray, List.set_cons_zero, List.set_cons_succ]
    refine wpAnyH_take (i := 17) (v := ?_) rfl (by decide +kernel) (by decide +kernel) (by decide +kernel) (fun _ _ _ h => h) (Or.inl ⟨by rfl, ?_⟩) hS ?_
    rotate_left
    · intro wS hSw; (try dsimp only at hSw); go_simp
      try with_reducible rfl
    try simp only [Act.put, List.setIfInBounds_toArray, List.set_cons_zero, List.set_cons_succ]
    clear hS
    refine wpAnyH_ready (rs := [1, 10]) (by kernel_rfl) (by simp) ?_
    refine AllReadyH.cons rfl (fun K hK => ?_) ?_
    · go_simp
      refine hK.out _ _ (KS.out _ (by repeat (first | exact Fr.refl NoF _ | exact HF7.out | exact HF6.out | exact HF5.out | apply Fr.drew | apply Fr.alloc))) (fun hS => ?_)
      clear hK K
      try simp only [Act.put, List.setIfInBounds_toArray, List.set_cons_zero, List.set_cons_succ]
      refine wpAnyH_ready (rs := [8, 10]) (by kernel_rfl) (by simp) ?_
      refine AllReadyH.cons rfl (fun K hK => ?_) ?_
      · refine appSB (base := wB.heap.size) EIE rfl (.tmp 27) (.tmp 33) rfl (by rfl) (by rfl) (by first | omega | (simp; done) | (simp; omega)) (HOW.out _ _ ⟨_, (by repeat (first | exact Fr.refl NoF _ | apply Fr.drew | apply Fr.alloc)), by first | rfl | simp, (by repeat (first | exact Fr.refl NoF _ | apply Fr.drew | apply Fr.alloc))⟩) (HFI.out _ (by repeat (first | exact Fr.refl NoF _ | apply Fr.drew | apply Fr.alloc))) (by unfold maxLen; omega) (by omega) ?_; intro v5 w5 hown5 hf5 hob5; rw [Nat.zero_add, List.nil_append] at hown5; obtain ⟨a5, c5, rfl, _, _⟩ := (SlC.ofOwn hown5 HO1.out).shape; have HX5 := Lib.hid (fun (g : Nat) (h1 : SlC _ 5 (.slice (some ⟨g, 0, none⟩) 1 1) 1 (enL x)) h2 => SlC.fr h1 hf5 h2); have HO5 := Lib.hid hown5; have HF5 := Lib.hid (Fr.trans (F := NoF) (a := wB) (by repeat (first | exact Fr.refl NoF _ | apply Fr.drew | apply Fr.alloc)) hf5 (fun i q => .inr (by cases q; first | exact Nat.le_refl _ | (simp; done) | (simp; omega)))); obtain ⟨x1, x2, x3, x4, x5, x6, x7, x8, x9⟩ := KC.out w5 HF5.out; have hs5 := HF5.out.size; clear hown5 hf5 hob5
        refine hK.out _ _ (KS.out _ (by repeat (first | exact Fr.refl NoF _ | exact HF7.out | exact HF6.out | exact HF5.out | apply Fr.drew | apply Fr.alloc))) (fun hS => ?_)
        clear hK K
        try simp only [Act.put, List.setIfInBounds_toArray, List.set_cons_zero, List.set_cons_succ]
        refine wpAnyH_ready (rs := [10]) (by kernel_rfl) (by simp) ?_
        refine AllReadyH.cons rfl (fun K hK => ?_) ?_
        · go_simp
          refine hK.out _ _ (KS.out _ (by repeat (first | exact Fr.refl NoF _ | exact HF7.out | exact HF6.out | exact HF5.out | apply Fr.drew | apply Fr.alloc))) (fun hS => ?_)
          clear hK K
          try simp only [Act.put, List.setIfInBounds_toArray, List.set_cons_zero, List.set_cons_succ]
          refine wpAnyH_ready (rs := [11]) (by kernel_rfl) (by simp) ?_
          refine AllReadyH.cons rfl (fun K hK => ?_) ?_
          · refine appSB (base := wB.heap.size) EIE rfl (.tmp 34) (.tmp 36) rfl (by rfl) (by rfl) (by first | omega | (simp; done) | (simp; omega)) (own_keep HO5.out (by repeat (first | exact Fr.refl NoF _ | apply Fr.drew | apply Fr.alloc)) (fun _ _ q => q)) (by first | exact SlC.ofOwn (own_new (w0 := w5) (Nat.le_refl _) (enA x) 74 5 1 _ rfl rfl (by unfold maxLen; omega)) HO3.out | exact SlC.keep (HX5.out _ (HXW.out _ _ ⟨_, (by repeat (first | exact Fr.refl NoF _ | apply Fr.drew | apply Fr.alloc)), by first | rfl | simp, (by repeat (first | exact Fr.refl NoF _ | apply Fr.drew | apply Fr.alloc))⟩) (fun b e1 e2 => by simp [Value.ownBlock] at e1 e2; omega)) (by repeat (first | exact Fr.refl NoF _ | apply Fr.drew | apply Fr.alloc))) (by unfold maxLen; omega) (by omega) ?_; intro v6 w6 hown6 hf6 hob6; obtain ⟨a6, c6', rfl, _, _⟩ := (SlC.ofOwn hown6 (fun u hu => by rcases List.mem_append.1 hu with q | q; exact HO1.out u q; exact HO3.out u q)).shape; have HO6 := Lib.hid hown6; have HF6 := Lib.hid (Fr.trans (F := NoF) (a := wB) (by first | exact HF5.out | (exact HF5.out.trans (by repeat (first | exact Fr.refl NoF _ | apply Fr.drew | apply Fr.alloc)) (by intro _ q; exact False.elim q))) hf6 (fun i q => .inr (ownBlock_own HO5.out i q))); obtain ⟨y1, y2, y3, y4, y5, y6, y7, y8, y9⟩ := KC.out w6 HF6.out; have hs6 := HF6.out.size; clear hown6 hf6 hob6
            refine hK.out _ _ (KS.out _ (by repeat (first | exact Fr.refl NoF _ | exact HF7.out | exact HF6.out | exact HF5.out | apply Fr.drew | apply Fr.alloc))) (fun hS => ?_)
            clear hK K
            try simp only [Act.put, List.setIfInBounds_toArray, List.set_cons_zero, List.set_cons_succ]
            refine wpAnyH_ready (rs := [18]) (by kernel_rfl) (by simp) ?_
            refine AllReadyH.cons rfl (fun K hK => ?_) ?_
            · refine appSB (base := wB.heap.size) EIE rfl (.tmp 37) (.tmp 43) rfl (by rfl) (by rfl) (by first | omega | (simp; done) | (simp; omega)) (own_keep HO6.out (by repeat (first | exact Fr.refl NoF _ | apply Fr.drew | apply Fr.alloc)) (fun _ _ q => q)) (hLA2.out _ (by first | exact HF6.out | (exact HF6.out.trans (by repeat (first | exact Fr.refl NoF _ | apply Fr.drew | apply Fr.alloc)) (by intro _ q; exact False.elim q)))) (by unfold maxLen; omega) (by omega) ?_; intro v7 w7 hown7 hf7 hob7; obtain ⟨a7, c7', rfl, _, _⟩ := (SlC.ofOwn hown7 (fun u hu => by rcases List.mem_append.1 hu with q | q; rcases List.mem_append.1 q with q | q; exact HO1.out u q; exact HO3.out u q; exact HO2.out u q)).shape; have HO7 := Lib.hid hown7; have HF7 := Lib.hid (Fr.trans (F := NoF) (a := wB) (by first | exact HF6.out | (exact HF6.out.trans (by repeat (first | exact Fr.refl NoF _ | apply Fr.drew | apply Fr.alloc)) (by intro _ q; exact False.elim q))) hf7 (fun i q => .inr (ownBlock_own HO6.out i q))); obtain ⟨z1, z2, z3, z4, z5, z6, z7, z8, z9⟩ := KC.out w7 HF7.out; clear hown7 hf7 hob7
              refine hK.out _ _ (KS.out _ (by repeat (first | exact Fr.refl NoF _ | exact HF7.out | exact HF6.out | exact HF5.out | apply Fr.drew | apply Fr.alloc))) (fun hS => ?_)
              clear hK K
              try simp only [Act.put, List.setIfInBounds_toArray, List.set_cons_zero, List.set_cons_succ]
              refine wpAnyH_take (i := 19) (v := ?_) rfl (by decide +kernel) (by decide +kernel) (by decide +kernel) (fun _ _ _ h => h) (Or.inl ⟨by rfl, ?_⟩) hS ?_
              rotate_left
              · intro wS hSw; (try dsimp only at hSw); go_simp
                try with_reducible rfl
              try simp only [Act.put, List.setIfInBounds_toArray, List.set_cons_zero, List.set_cons_succ]
              refine wpAnyH_take (i := 20) (v := ?_) rfl (by decide +kernel) (by decide +kernel) (by decide +kernel) (fun _ _ _ h => h) (Or.inl ⟨by rfl, ?_⟩) hS ?_
              rotate_left
              · intro wS hSw; (try dsimp only at hSw); go_simp
                try with_reducible rfl
              try simp only [Act.put, List.setIfInBounds_toArray, List.set_cons_zero, List.set_cons_succ]
              refine wpAnyH_done (by kernel_rfl) ?_ _
              show wpList _ _ _ _ _ _
              have HST := Lib.hid (FIN.out _ _ (HO7.out.lower (by omega)) HF7.out)
              clear FIN HO7 HF7 HO6 HF6 HO5 HF5 HX5 HOW HXW KC HFI hLA2 HO1 HO2 HO3
              go_wp2_with fail
              go_meet
              exact ⟨rfl, HST.out⟩
            exact AllReadyH.nil
          exact AllReadyH.nil
        exact AllReadyH.nil
      refine AllReadyH.cons rfl (fun K hK => ?_) ?_
      · go_simp
        refine hK.out _ _ (KS.out _ (by repeat (first | exact Fr.refl NoF _ | exact HF7.out | exact HF6.out | exact HF5.out | apply Fr.drew | apply Fr.alloc))) (fun hS => ?_)
        clear hK K
        try simp only [Act.put, List.setIfInBounds_toArray, List.set_cons_zero, List.set_cons_succ]
        refine wpAnyH_ready (rs := [8]) (by kernel_rfl) (by simp) ?_
        refine AllReadyH.cons rfl (fun K hK => ?_) ?_
        · refine appSB (base := wB.heap.size) EIE rfl (.tmp 27) (.tmp 33) rfl (by rfl) (by rfl) (by first | omega | (simp; done) | (simp; omega)) (HOW.out _ _ ⟨_, (by repeat (first | exact Fr.refl NoF _ | apply Fr.drew | apply Fr.alloc)), by first | rfl | simp, (by repeat (first | exact Fr.refl NoF _ | apply Fr.drew | apply Fr.alloc))⟩) (HFI.out _ (by repeat (first | exact Fr.refl NoF _ | apply Fr.drew | apply Fr.alloc))) (by unfold maxLen; omega) (by omega) ?_; intro v5 w5 hown5 hf5 hob5; rw [Nat.zero_add, List.nil_append] at hown5; obtain ⟨a5, c5, rfl, _, _⟩ := (SlC.ofOwn hown5 HO1.out).shape; have HX5 := Lib.hid (fun (g : Nat) (h1 : SlC _ 5 (.slice (some ⟨g, 0, none⟩) 1 1) 1 (enL x)) h2 => SlC.fr h1 hf5 h2); have HO5 := Lib.hid hown5; have HF5 := Lib.hid (Fr.trans (F := NoF) (a := wB) (by repeat (first | exact Fr.refl NoF _ | apply Fr.drew | apply Fr.alloc)) hf5 (fun i q => .inr (by cases q; first | exact Nat.le_refl _ | (simp; done) | (simp; omega)))); obtain ⟨x1, x2, x3, x4, x5, x6, x7, x8, x9⟩ := KC.out w5 HF5.out; have hs5 := HF5.out.size; clear hown5 hf5 hob5
          refine hK.out _ _ (KS.out _ (by repeat (first | exact Fr.refl NoF _ | exact HF7.out | exact HF6.out | exact HF5.out | apply Fr.drew | apply Fr.alloc))) (fun hS => ?_)
          clear hK K
          try simp only [Act.put, List.setIfInBounds_toArray, List.set_cons_zero, List.set_cons_succ]
          refine wpAnyH_ready (rs := [11]) (by kernel_rfl) (by simp) ?_
          refine AllReadyH.cons rfl (fun K hK => ?_) ?_
          · refine appSB (base := wB.heap.size) EIE rfl (.tmp 34) (.tmp 36) rfl (by rfl) (by rfl) (by first | omega | (simp; done) | (simp; omega)) (own_keep HO5.out (by repeat (first | exact Fr.refl NoF _ | apply Fr.drew | apply Fr.alloc)) (fun _ _ q => q)) (by first | exact SlC.ofOwn (own_new (w0 := w5) (Nat.le_refl _) (enA x) 74 5 1 _ rfl rfl (by unfold maxLen; omega)) HO3.out | exact SlC.keep (HX5.out _ (HXW.out _ _ ⟨_, (by repeat (first | exact Fr.refl NoF _ | apply Fr.drew | apply Fr.alloc)), by first | rfl | simp, (by repeat (first | exact Fr.refl NoF _ | apply Fr.drew | apply Fr.alloc))⟩) (fun b e1 e2 => by simp [Value.ownBlock] at e1 e2; omega)) (by repeat (first | exact Fr.refl NoF _ | apply Fr.drew | apply Fr.alloc))) (by unfold maxLen; omega) (by omega) ?_; intro v6 w6 hown6 hf6 hob6; obtain ⟨a6, c6', rfl, _, _⟩ := (SlC.ofOwn hown6 (fun u hu => by rcases List.mem_append.1 hu with q | q; exact HO1.out u q; exact HO3.out u q)).shape; have HO6 := Lib.hid hown6; have HF6 := Lib.hid (Fr.trans (F := NoF) (a := wB) (by first | exact HF5.out | (exact HF5.out.trans (by repeat (first | exact Fr.refl NoF _ | apply Fr.drew | apply Fr.alloc)) (by intro _ q; exact False.elim q))) hf6 (fun i q => .inr (ownBlock_own HO5.out i q))); obtain ⟨y1, y2, y3, y4, y5, y6, y7, y8, y9⟩ := KC.out w6 HF6.out; have hs6 := HF6.out.size; clear hown6 hf6 hob6
            refine hK.out _ _ (KS.out _ (by repeat (first | exact Fr.refl NoF _ | exact HF7.out | exact HF6.out | exact HF5.out | apply Fr.drew | apply Fr.alloc))) (fun hS => ?_)
            clear hK K
            try simp only [Act.put, List.setIfInBounds_toArray, List.set_cons_zero, List.set_cons_succ]
            refine wpAnyH_ready (rs := [18]) (by kernel_rfl) (by simp) ?_
            refine AllReadyH.cons rfl (fun K hK => ?_) ?_
            · refine appSB (base := wB.heap.size) EIE rfl (.tmp 37) (.tmp 43) rfl (by rfl) (by rfl) (by first | omega | (simp; done) | (simp; omega)) (own_keep HO6.out (by repeat (first | exact Fr.refl NoF _ | apply Fr.drew | apply Fr.alloc)) (fun _ _ q => q)) (hLA2.out _ (by first | exact HF6.out | (exact HF6.out.trans (by repeat (first | exact Fr.refl NoF _ | apply Fr.drew | apply Fr.alloc)) (by intro _ q; exact False.elim q)))) (by unfold maxLen; omega) (by omega) ?_; intro v7 w7 hown7 hf7 hob7; obtain ⟨a7, c7', rfl, _, _⟩ := (SlC.ofOwn hown7 (fun u hu => by rcases List.mem_append.1 hu with q | q; rcases List.mem_append.1 q with q | q; exact HO1.out u q; exact HO3.out u q; exact HO2.out u q)).shape; have HO7 := Lib.hid hown7; have HF7 := Lib.hid (Fr.trans (F := NoF) (a := wB) (by first | exact HF6.out | (exact HF6.out.trans (by repeat (first | exact Fr.refl NoF _ | apply Fr.drew | apply Fr.alloc)) (by intro _ q; exact False.elim q))) hf7 (fun i q => .inr (ownBlock_own HO6.out i q))); obtain ⟨z1, z2, z3, z4, z5, z6, z7, z8, z9⟩ := KC.out w7 HF7.out; clear hown7 hf7 hob7
              refine hK.out _ _ (KS.out _ (by repeat (first | exact Fr.refl NoF _ | exact HF7.out | exact HF6.out | exact HF5.out | apply Fr.drew | apply Fr.alloc))) (fun hS => ?_)
              clear hK K
              try simp only [Act.put, List.setIfInBounds_toArray, List.set_cons_zero, List.set_cons_succ]
              refine wpAnyH_take (i := 19) (v := ?_) rfl (by decide +kernel) (by decide +kernel) (by decide +kernel) (fun _ _ _ h => h) (Or.inl ⟨by rfl, ?_⟩) hS ?_
              rotate_left
              · intro wS hSw; (try dsimp only at hSw); go_simp
                try with_reducible rfl
              try simp only [Act.put, List.setIfInBounds_toArray, List.set_cons_zero, List.set_cons_succ]
              refine wpAnyH_take (i := 20) (v := ?_) rfl (by decide +kernel) (by decide +kernel) (by decide +kernel) (fun _ _ _ h => h) (Or.inl ⟨by rfl, ?_⟩) hS ?_
              rotate_left
              · intro wS hSw; (try dsimp only at hSw); go_simp
                try with_reducible rfl
              try simp only [Act.put, List.setIfInBounds_toArray, List.set_cons_zero, List.set_cons_succ]
              refine wpAnyH_done (by kernel_rfl) ?_ _
              show wpList _ _ _ _ _ _
              have HST := Lib.hid (FIN.out _ _ (HO7.out.lower (by omega)) HF7.out)
              clear FIN HO7 HF7 HO6 HF6 HO5 HF5 HX5 HOW HXW KC HFI hLA2 HO1 HO2 HO3
              go_wp2_with fail
              go_meet
              exact ⟨rfl, HST.out⟩
            exact AllReadyH.nil
          exact AllReadyH.nil
        exact AllReadyH.nil
      exact AllReadyH.nil
    refine AllReadyH.cons rfl (fun K hK => ?_) ?_
    · go_simp
      refine hK.out _ _ (KS.out _ (by repeat (first | exact Fr.refl NoF _ | exact HF7.out | exact HF6.out | exact HF5.out | apply Fr.drew | apply Fr.alloc))) (fun hS => ?_)
      clear hK K
      try simp only [Act.put, List.setIfInBounds_toArray, List.set_cons_zero, List.set_cons_succ]
      refine wpAnyH_ready (rs := [1]) (by kernel_rfl) (by simp) ?_
      refine AllReadyH.cons rfl (fun K hK => ?_) ?_
      · go_simp
        refine hK.out _ _ (KS.out _ (by repeat (first | exact Fr.refl NoF _ | exact HF7.out | exact HF6.out | exact HF5.out | apply Fr.drew | apply Fr.alloc))) (fun hS => ?_)
        clear hK K
        try simp only [Act.put, List.setIfInBounds_toArray, List.set_cons_zero, List.set_cons_succ]
        refine wpAnyH_ready (rs := [8]) (by kernel_rfl) (by simp) ?_
        refine AllReadyH.cons rfl (fun K hK => ?_) ?_
        · refine appSB (base := wB.heap.size) EIE rfl (.tmp 27) (.tmp 33) rfl (by rfl) (by rfl) (by first | omega | (simp; done) | (simp; omega)) (HOW.out _ _ ⟨_, (by repeat (first | exact Fr.refl NoF _ | apply Fr.drew | apply Fr.alloc)), by first | rfl | simp, (by repeat (first | exact Fr.refl NoF _ | apply Fr.drew | apply Fr.alloc))⟩) (HFI.out _ (by repeat (first | exact Fr.refl NoF _ | apply Fr.drew | apply Fr.alloc))) (by unfold maxLen; omega) (by omega) ?_; intro v5 w5 hown5 hf5 hob5; rw [Nat.zero_add, List.nil_append] at hown5; obtain ⟨a5, c5, rfl, _, _⟩ := (SlC.ofOwn hown5 HO1.out).shape; have HX5 := Lib.hid (fun (g : Nat) (h1 : SlC _ 5 (.slice (some ⟨g, 0, none⟩) 1 1) 1 (enL x)) h2 => SlC.fr h1 hf5 h2); have HO5 := Lib.hid hown5; have HF5 := Lib.hid (Fr.trans (F := NoF) (a := wB) (by repeat (first | exact Fr.refl NoF _ | apply Fr.drew | apply Fr.alloc)) hf5 (fun i q => .inr (by cases q; first | exact Nat.le_refl _ | (simp; done) | (simp; omega)))); obtain ⟨x1, x2, x3, x4, x5, x6, x7, x8, x9⟩ := KC.out w5 HF5.out; have hs5 := HF5.out.size; clear hown5 hf5 hob5
          refine hK.out _ _ (KS.out _ (by repeat (first | exact Fr.refl NoF _ | exact HF7.out | exact HF6.out | exact HF5.out | apply Fr.drew | apply Fr.alloc))) (fun hS => ?_)
          clear hK K
          try simp only [Act.put, List.setIfInBounds_toArray, List.set_cons_zero, List.set_cons_succ]
          refine wpAnyH_ready (rs := [11]) (by kernel_rfl) (by simp) ?_
          refine AllReadyH.cons rfl (fun K hK => ?_) ?_
          · refine appSB (base := wB.heap.size) EIE rfl (.tmp 34) (.tmp 36) rfl (by rfl) (by rfl) (by first | omega | (simp; done) | (simp; omega)) (own_keep HO5.out (by repeat (first | exact Fr.refl NoF _ | apply Fr.drew | apply Fr.alloc)) (fun _ _ q => q)) (by first | exact SlC.ofOwn (own_new (w0 := w5) (Nat.le_refl _) (enA x) 74 5 1 _ rfl rfl (by unfold maxLen; omega)) HO3.out | exact SlC.keep (HX5.out _ (HXW.out _ _ ⟨_, (by repeat (first | exact Fr.refl NoF _ | apply Fr.drew | apply Fr.alloc)), by first | rfl | simp, (by repeat (first | exact Fr.refl NoF _ | apply Fr.drew | apply Fr.alloc))⟩) (fun b e1 e2 => by simp [Value.ownBlock] at e1 e2; omega)) (by repeat (first | exact Fr.refl NoF _ | apply Fr.drew | apply Fr.alloc))) (by unfold maxLen; omega) (by omega) ?_; intro v6 w6 hown6 hf6 hob6; obtain ⟨a6, c6', rfl, _, _⟩ := (SlC.ofOwn hown6 (fun u hu => by rcases List.mem_append.1 hu with q | q; exact HO1.out u q; exact HO3.out u q)).shape; have HO6 := Lib.hid hown6; have HF6 := Lib.hid (Fr.trans (F := NoF) (a := wB) (by first | exact HF5.out | (exact HF5.out.trans (by repeat (first | exact Fr.refl NoF _ | apply Fr.drew | apply Fr.alloc)) (by intro _ q; exact False.elim q))) hf6 (fun i q => .inr (ownBlock_own HO5.out i q))); obtain ⟨y1, y2, y3, y4, y5, y6, y7, y8, y9⟩ := KC.out w6 HF6.out; have hs6 := HF6.out.size; clear hown6 hf6 hob6
            refine hK.out _ _ (KS.out _ (by repeat (first | exact Fr.refl NoF _ | exact HF7.out | exact HF6.out | exact HF5.out | apply Fr.drew | apply Fr.alloc))) (fun hS => ?_)
            clear hK K
            try simp only [Act.put, List.setIfInBounds_toArray, List.set_cons_zero, List.set_cons_succ]
            refine wpAnyH_ready (rs := [18]) (by kernel_rfl) (by simp) ?_
            refine AllReadyH.cons rfl (fun K hK => ?_) ?_
            · refine appSB (base := wB.heap.size) EIE rfl (.tmp 37) (.tmp 43) rfl (by rfl) (by rfl) (by first | omega | (simp; done) | (simp; omega)) (own_keep HO6.out (by repeat (first | exact Fr.refl NoF _ | apply Fr.drew | apply Fr.alloc)) (fun _ _ q => q)) (hLA2.out _ (by first | exact HF6.out | (exact HF6.out.trans (by repeat (first | exact Fr.refl NoF _ | apply Fr.drew | apply Fr.alloc)) (by intro _ q; exact False.elim q)))) (by unfold maxLen; omega) (by omega) ?_; intro v7 w7 hown7 hf7 hob7; obtain ⟨a7, c7', rfl, _, _⟩ := (SlC.ofOwn hown7 (fun u hu => by rcases List.mem_append.1 hu with q | q; rcases List.mem_append.1 q with q | q; exact HO1.out u q; exact HO3.out u q; exact HO2.out u q)).shape; have HO7 := Lib.hid hown7; have HF7 := Lib.hid (Fr.trans (F := NoF) (a := wB) (by first | exact HF6.out | (exact HF6.out.trans (by repeat (first | exact Fr.refl NoF _ | apply Fr.drew | apply Fr.alloc)) (by intro _ q; exact False.elim q))) hf7 (fun i q => .inr (ownBlock_own HO6.out i q))); obtain ⟨z1, z2, z3, z4, z5, z6, z7, z8, z9⟩ := KC.out w7 HF7.out; clear hown7 hf7 hob7
              refine hK.out _ _ (KS.out _ (by repeat (first | exact Fr.refl NoF _ | exact HF7.out | exact HF6.out | exact HF5.out | apply Fr.drew | apply Fr.alloc))) (fun hS => ?_)
              clear hK K
              try simp only [Act.put, List.setIfInBounds_toArray, List.set_cons_zero, List.set_cons_succ]
              refine wpAnyH_take (i := 19) (v := ?_) rfl (by decide +kernel) (by decide +kernel) (by decide +kernel) (fun _ _ _ h => h) (Or.inl ⟨by rfl, ?_⟩) hS ?_
              rotate_left
              · intro wS hSw; (try dsimp only at hSw); go_simp
                try with_reducible rfl
              try simp only [Act.put, List.setIfInBounds_toArray, List.set_cons_zero, List.set_cons_succ]
              refine wpAnyH_take (i := 20) (v := ?_) rfl (by decide +kernel) (by decide +kernel) (by decide +kernel) (fun _ _ _ h => h) (Or.inl ⟨by rfl, ?_⟩) hS ?_
              rotate_left
              · intro wS hSw; (try dsimp only at hSw); go_simp
                try with_reducible rfl
              try simp only [Act.put, List.setIfInBounds_toArray, List.set_cons_zero, List.set_cons_succ]
              refine wpAnyH_done (by kernel_rfl) ?_ _
              show wpList _ _ _ _ _ _
              have HST := Lib.hid (FIN.out _ _ (HO7.out.lower (by omega)) HF7.out)
              clear FIN HO7 HF7 HO6 HF6 HO5 HF5 HX5 HOW HXW KC HFI hLA2 HO1 HO2 HO3
              go_wp2_with fail
              go_meet
              exact ⟨rfl, HST.out⟩
            exact AllReadyH.nil
          exact AllReadyH.nil
        exact AllReadyH.nil
      exact AllReadyH.nil
    exact AllReadyH.nil
  case rest =>
    clear FIN HOW HXW KC KS HFI hLA2 HO1 HO2 HO3 c3 f3 lp b0 b1 b2 b3 b4 lbx
    obtain ⟨rfl, hcut⟩ := hcut
    have HST := Lib.hid hcut
    clear hcut
    go_wp2_with fail
    go_loopg [5] 3 (fun g v wr => ∃ h, h ≤ 3 ∧ g = 3 - h ∧ v = .int .i64 h ∧ RS w0 F pb gb ob n wr (s.lpart x h))
    case atStart => exact ⟨0, by omega, rfl, rfl, HST.out⟩
    case round =>
      obtain ⟨h, hl, rfl, rfl, hr⟩ := hrel
      clear HST
      have HR := Lib.hid hr
      by_cases hlt : h < 3
      · obtain ⟨⟨lv, r1, r2⟩, r3, r4⟩ := hr
        have ch := r1.hand hlt
        have eh : (s.lpart x h).hd h = s.hd h := by show (if h < h then _ else _) = _; rw [if_neg (by omega)]
        rw [eh] at ch
        have lb := r1.hd.lt
        have fz := r1.hd.frozen (4 + h)
        have hxb := hhb h hlt
        have DN : Hid (∀ wz y, RS w0 F pb gb ob n wz { s.lpart x h with hd := upd (s.lpart x h).hd h y } → y = (if s.hd 0 ≤ s.hd h then s.hd h + 1 else s.hd h) → RS w0 F pb gb ob n wz (s.lpart x (h + 1))) := fun wz y q e => q.hands rfl rfl rfl rfl (fun j hj => by
          show (if j < h + 1 then _ else _) = upd _ h y j
          by_cases e1 : j = h
          · rw [e1, if_pos (by omega), upd_same, e]
          · rw [upd_other _ _ e1]; show _ = (if j < h then _ else _)
            by_cases e2 : j < h
            · rw [if_pos e2, if_pos (by omega)]
            · rw [if_neg e2, if_neg (by omega)])
        rw [EX.out] at DN
        clear r1 r2 r3 r4 eh
        generalize hey : s.hd h = y at *
        have EY := Lib.hid hey
        clear hey
        by_cases e1 : i ≤ y
        · rw [if_pos e1] at DN
          have ST : Hid (∀ d d', RS w0 F pb gb ob n (((wr.drewN d).setCell ⟨pb, 4 + h, none⟩ (.int .i64 ((y : Int) + 1))).drewN d') (s.lpart x (h + 1))) := fun d d' => DN.out _ (y + 1) (((HR.out.fr0 ((Fr.refl NoF wr).drewN d)).setHand hlt (y + 1)).fr0 ((Fr.refl NoF _).drewN d')) rfl
          have hkx : IntKind.i64.wrap ((y : Int) + 1) = (y : Int) + 1 := IntWalk.i64_in _ (by omega)
          go_wp2
          go_still_tail 11, (by kernel_rfl)
          go_wp2
          go_roundg (3 - (h + 1))
          case measure => omega
          case rel => exact ⟨h + 1, by omega, rfl, rfl, ST.out 1 0⟩
        · rw [if_neg e1] at DN
          have ST : Hid (RS w0 F pb gb ob n wr (s.lpart x (h + 1))) := DN.out _ y (by
            refine HR.out.hands rfl rfl rfl rfl (fun j hj => ?_)
            by_cases ej : j = h
            · subst ej; show upd _ _ _ _ = _; rw [upd_same]; show y = (if _ then _ else _)
              rw [if_neg (by omega)]
              exact EY.out.symm
            · show upd _ _ _ _ = _; rw [upd_other _ _ ej]) rfl
          go_wp2
          go_roundg (3 - (h + 1))
          case measure => omega
          case rel => exact ⟨h + 1, by omega, rfl, rfl, ST.out⟩
      · obtain rfl : h = 3 := by omega
        have FIN : Hid (RS w0 F pb gb ob n wr (s.lay x)) := by
          have e0 : ¬ s.L = [] := fun e => by rw [e] at hh; cases hh
          refine hr.hands ?_ ?_ ?_ ?_ ?_
          · unfold PrS.lay; rw [if_neg e0]; rfl
          · exact lay_pg.1
          · exact lay_pg.2.1
          · exact lay_pg.2.2
          · intro j hj
            unfold PrS.lay; rw [if_neg e0]
            show _ = (if j < 3 then _ else _)
            rw [if_pos hj]
        clear hr HR
        go_wp2
        go_returns
        exact ⟨rfl, FIN.out⟩
theorem q_lay (h : RS w0 F pb gb ob n w s) (hh : 0 < s.L.length → ∀ j, j < 3 → s.hd j < s.L.length) (hm : s.L.length + 1 < 4000) (x : En) : Calls Try.prog 52 #[.pointer (some ⟨pb, 0, none⟩), .agg (enA x)] w fun e w' => e = .returned (.tuple #[]) ∧ RS w0 F pb gb ob n w' (s.lay x) := by
  by_cases h0 : s.L = []
  · exact q_lay0 h h0 x
  · exact q_lay1 h (hh (List.length_pos_iff.2 h0) 0 (by omega)) (hh (List.length_pos_iff.2 h0)) hm x
end
end Go.Proofs.Ytoainbdkhhblbaa
namespace Go.Proofs.Ytoainbdkhhblbaa
open Go.RowKit
set_option linter.unusedVariables false
set_option linter.unusedSimpArgs false

/-- The ghosts' pages. -/
def ghL (l : List En) : List Nat := (l.filter (fun e => decide (e.fr < 0))).map (fun e => e.pg)
theorem ghL_snoc (l : List En) (y : En) : ghL (l ++ [y]) = ghL l ++ (if y.fr < 0 then [y.pg] else []) := by
  unfold ghL
  rw [List.filter_append, List.map_append]
  congr 1
  by_cases h : y.fr < 0
  · simp [List.filter_cons, h]
  · simp [List.filter_cons, h]
theorem ghL_len (s : PrS) : s.gh.length = s.gone := by
  unfold PrS.gh PrS.gone
  rw [List.length_map, List.countP_eq_length_filter]
theorem take_snoc {l : List En} {k : Nat} {y : En} (h : l[k]? = some y) : l.take (k + 1) = l.take k ++ [y] := by
  have hl := get_lt h
  rw [List.take_succ_eq_append_getElem hl]
  rw [List.getElem?_eq_getElem hl] at h
  simp only [Option.some.injEq] at h
  rw [h]
section
variable {w w' w0 : World} {pb gb ob n m : Nat} {F : Nat → Prop} {s : PrS} {lv : Value} {x : En} {i : Nat}
theorem RS.setHead (h : RS w0 F pb gb ob n w s) {s' : PrS} {i : Nat} {v : Value} (e : ∀ lv j, j < 8 → upd (hdQ n gb ob lv s) i v j = hdQ n gb ob lv s' j) (e1 : s'.L = s.L) (e2 : s'.pg = s.pg) (e3 : s'.on = s.on) : RS w0 F pb gb ob n (w.setCell ⟨pb, i, none⟩ v) s' := by
  obtain ⟨⟨lv, h1, h2⟩, h3, h4⟩ := h
  exact ⟨⟨lv, h1.setHead (e lv) e1 e2 e3, h2⟩, h3.setCell (p := ⟨pb, i, none⟩) (.inl h4.1) _, h4⟩
theorem RS.setGoal (h : RS w0 F pb gb ob n w s) (g : Nat) : RS w0 F pb gb ob n (w.setCell ⟨pb, 7, none⟩ (.int .i64 g)) { s with goal := g } := h.setHead (s' := { s with goal := g }) (fun lv => hdQ_goal n gb ob lv s g) rfl rfl rfl
/-- A cell of an entry is written. -/
theorem RS.setEn (h : RS w0 F pb gb ob n w s) {i : Nat} {x : En} (hx : s.L[i]? = some x) : ∃ g cap, w.cell? ⟨pb, 3, none⟩ = some (.slice (some ⟨g, 0, none⟩) s.L.length cap) ∧ s.L.length ≤ cap ∧ cap ≤ maxLen ∧ g < w.heap.size ∧ (∀ i, w.frozen? ⟨g, i, none⟩ = false) ∧ i < s.L.length ∧ ¬ g = pb ∧ ¬ g = gb ∧ ¬ g = ob ∧
    (w.cell? ⟨g, i * 5, none⟩ = some (.int .u32 (x.pg : Nat)) ∧ w.cell? ⟨g, i * 5 + 1, none⟩ = some (.int .i64 x.fr) ∧ w.cell? ⟨g, i * 5 + 2, none⟩ = some (.bool x.hot) ∧ w.cell? ⟨g, i * 5 + 3, none⟩ = some (.bool x.ref) ∧ w.cell? ⟨g, i * 5 + 4, none⟩ = some (.bool x.test)) ∧
    ∀ (k : Nat) (v : Value) (y : En), k < 5 → (∀ j, j < 5 → enC y j = if j = k then v else enC x j) → RS w0 F pb gb ob n (w.setCell ⟨g, i * 5 + k, none⟩ v) (s.put i y) := by
  obtain ⟨⟨lv, h1, h2⟩, h3, h4⟩ := h
  obtain ⟨g, cap, rfl, q1, q2, q3, q4, q5, c0, c1, c2, c3, c4⟩ := h1.at hx
  obtain ⟨n1, n2, n3⟩ := h1.dl g rfl
  refine ⟨g, cap, h1.c 3 (by omega), q1, q2, q3, q4, q5, n1, n2, n3, ⟨c0, c1, c2, c3, c4⟩, fun k v y hk hv => ⟨⟨_, ?_, h2⟩, h3.setCell (p := ⟨g, i * 5 + k, none⟩) (h2 g rfl) _, h4⟩⟩
  exact h1.setEn hx hk v hv
theorem RS.hd (h : RS w0 F pb gb ob n w s) : (∃ a c, w.cell? ⟨pb, 3, none⟩ = some (.slice a s.L.length c) ∧ s.L.length ≤ c ∧ c ≤ maxLen) ∧ (∀ j, j < 3 → w.cell? ⟨pb, 4 + j, none⟩ = some (.int .i64 (s.hd j : Nat))) ∧ w.cell? ⟨pb, 7, none⟩ = some (.int .i64 (s.goal : Nat)) ∧ w.cell? ⟨pb, 0, none⟩ = some (.int .i64 n) ∧ (∀ i, w.frozen? ⟨pb, i, none⟩ = false) ∧ s.L.length < 4000 ∧ n < 1000 := by
  obtain ⟨⟨lv, h1, h2⟩, h3, h4⟩ := h
  obtain ⟨a, c, rfl, q1, q2⟩ := h1.shape
  exact ⟨⟨a, c, h1.c 3 (by omega), q1, q2⟩, fun j hj => h1.hand hj, h1.c 7 (by omega), h1.c 0 (by omega), fun i => h1.hd.frozen i, h1.hm, h1.hn⟩
set_option maxHeartbeats 2000000 in
theorem q_less (h : RS w0 F pb gb ob n w s) (hg : s.goal < 100000) : Calls Try.prog 77 #[.pointer (some ⟨pb, 0, none⟩)] w fun e w' => e = .returned (.tuple #[]) ∧ RS w0 F pb gb ob n w' s.less := by
  obtain ⟨_, _, c7, _, fz, _, _⟩ := h.hd
  have lb := h.lt
  have f7 := fz 7
  have FIN : Hid (∀ g, g = s.less.goal → RS w0 F pb gb ob n (w.setCell ⟨pb, 7, none⟩ (.int .i64 (g : Nat))) s.less) := fun g e => by rw [e]; exact h.setGoal _
  have HG : Hid (s.less.goal = max (s.goal - 1) 1) := rfl
  clear h fz
  by_cases h2 : 2 ≤ s.goal
  · have KEY := Lib.hid (FIN.out (s.goal - 1) (by have := HG.out; omega))
    rw [show ((s.goal - 1 : Nat) : Int) = (s.goal : Int) - 1 from by omega] at KEY
    clear FIN HG
    generalize s.goal = z at *
    have hmx : max ((z : Int) - 1) 1 = (z : Int) - 1 := by omega
    go_enter Try.func77, Try.ntmps77
    go_wp2
    all_goals first | omega | skip
    all_goals
      go_returns
      exact ⟨rfl, KEY.out⟩
  · have KEY := Lib.hid (FIN.out 1 (by have := HG.out; omega))
    clear FIN HG
    generalize s.goal = z at *
    go_enter Try.func77, Try.ntmps77
    go_wp2
    all_goals first | omega | skip
    all_goals
      go_returns
      exact ⟨rfl, KEY.out⟩
set_option maxHeartbeats 2000000 in
theorem q_Hot (h : RS w0 F pb gb ob n w s) : Calls Try.prog 15 #[.pointer (some ⟨pb, 0, none⟩)] w fun e w' => e = .returned (.int .i64 (s.hotN : Nat)) ∧ w' = w := by
  have H := Lib.hid h
  have HLEN := Lib.hid h.hd.2.2.2.2.2.1
  have HN : Hid (s.hotN = (s.L.take s.L.length).countP (fun e => e.hot)) := by unfold Hid; rw [List.take_of_length_le (Nat.le_refl _)]; rfl
  clear h
  go_enter Try.func15, Try.ntmps15
  go_wp2
  go_loopw [3, 4] (fun c i wr => ∃ k : Nat, k ≤ s.L.length ∧ i = .int .i64 k ∧ c = .int .i64 ((s.L.take k).countP (fun e => e.hot) : Nat) ∧ wr = w) (fun _ i _ => s.L.length - (intOf i).toNat)
  case atStart => exact ⟨0, Nat.zero_le _, rfl, rfl, rfl⟩
  case round =>
    obtain ⟨k, hkl, rfl, rfl, hf⟩ := hrel
    have HR := Lib.hid (show RS w0 F pb gb ob n wr s from by rw [hf]; exact H.out)
    have HF := Lib.hid hf
    obtain ⟨⟨a, c, c3, q1, q2⟩, _, _, _, _, hm, _⟩ := HR.out.hd
    have lp := HR.out.lt
    clear hf
    by_cases hlt : k < s.L.length
    · obtain ⟨x, hx⟩ : ∃ x, s.L[k]? = some x := ⟨_, List.getElem?_eq_getElem hlt⟩
      obtain ⟨g, cap, d3, p1, p2, p3, _, _, _, _, _, ⟨_, _, x2, _, _⟩, _⟩ := HR.out.setEn hx
      rw [d3] at c3
      simp only [Option.some.injEq, Value.slice.injEq] at c3
      obtain ⟨rfl, _, rfl⟩ := c3
      have HT : Hid ((s.L.take (k + 1)).countP (fun e => e.hot) = (s.L.take k).countP (fun e => e.hot) + (if x.hot = true then 1 else 0)) := by
        unfold Hid; rw [take_snoc hx, List.countP_append]; simp [List.countP_cons]
      have hcb : (s.L.take k).countP (fun e => e.hot) ≤ 4000 := Nat.le_trans List.countP_le_length (by rw [List.length_take]; omega)
      have HLT := Lib.hid hlt
      clear HR hx hkl
      generalize (s.L.take k).countP (fun e => e.hot) = cn at *
      generalize hln : s.L.length = z at *
      have HLZ := Lib.hid hln
      clear hln
      by_cases hh : x.hot = true
      · rw [hh] at x2
        have HU : Hid ((s.L.take (k + 1)).countP (fun e => e.hot) = cn + 1) := by have := HT.out; rw [if_pos hh] at this; exact this
        clear HT hh
        go_wp2
        go_roundw
        case rel => exact ⟨k + 1, HLT.out, by go_num, by rw [HU.out]; go_num, HF.out⟩
        case measure => have := HLT.out; simp [intOf]; omega
      · have hh : x.hot = false := by simpa using hh
        rw [hh] at x2
        have HU : Hid ((s.L.take (k + 1)).countP (fun e => e.hot) = cn) := by have := HT.out; rw [if_neg (by simp [hh])] at this; exact this
        clear HT hh
        go_wp2
        go_roundw
        case rel => exact ⟨k + 1, HLT.out, by go_num, by rw [HU.out], HF.out⟩
        case measure => have := HLT.out; simp [intOf]; omega
    · obtain rfl : k = s.L.length := by omega
      clear HR hkl hlt
      generalize (s.L.take s.L.length).countP (fun e => e.hot) = cn at *
      generalize s.L.length = z at *
      go_wp2
      go_returns
      exact ⟨by rw [HN.out]; rfl, HF.out⟩
set_option maxRecDepth 100000 in
set_option maxHeartbeats 4000000 in
theorem q_ghosts (h : RS w0 F pb gb ob n w s) (hp : ∀ e ∈ s.L, e.pg < 4294967296) : Calls Try.prog 45 #[.pointer (some ⟨pb, 0, none⟩)] w fun e w' => ∃ gv, e = .returned gv ∧ SlK .u32 w' gv s.gh ∧ (∀ b, gv.ownBlock = some b → w.heap.size ≤ b) ∧ Fr NoF w w' := by
  obtain ⟨i0, hi0, hz0, hz1, hz2⟩ := info_parts' (P := Try.prog) (e := 34) (z := .int .u32 0) (s := 1) (b := 4) (by kernel_rfl)
  have H := Lib.hid h
  have HP := Lib.hid hp
  have HN : Hid (s.gh = ghL (s.L.take s.L.length)) := by unfold Hid; rw [List.take_of_length_le (Nat.le_refl _)]; rfl
  clear h hp
  go_enter Try.func45, Try.ntmps45
  go_wp2
  go_loopw [3, 4] (fun o i wr => ∃ k : Nat, k ≤ s.L.length ∧ i = .int .i64 k ∧ wr.ownsRow w.heap.size 34 1 o (ghL (s.L.take k)).length ((ghL (s.L.take k)).map fun (x : Nat) => Value.int .u32 (x : Int)) ∧ Fr NoF w wr) (fun _ i _ => s.L.length - (intOf i).toNat)
  case atStart => exact ⟨0, Nat.zero_le _, rfl, World.ownsRow_nil _ _ _ _, Fr.refl _ _⟩
  case round =>
    obtain ⟨k, hkl, rfl, ho, hf⟩ := hrel
    have HR := Lib.hid (H.out.fr0 hf)
    have HF := Lib.hid hf
    have HO := Lib.hid ho
    obtain ⟨⟨a, c, c3, q1, q2⟩, _, _, _, _, hm, _⟩ := HR.out.hd
    have lp := HR.out.lt
    clear ho hf
    by_cases hlt : k < s.L.length
    · obtain ⟨x, hx⟩ : ∃ x, s.L[k]? = some x := ⟨_, List.getElem?_eq_getElem hlt⟩
      obtain ⟨g, cap, d3, p1, p2, p3, _, _, _, _, _, ⟨x0, x1, _, _, _⟩, _⟩ := HR.out.setEn hx
      rw [d3] at c3
      simp only [Option.some.injEq, Value.slice.injEq] at c3
      obtain ⟨rfl, _, rfl⟩ := c3
      have HT : Hid (ghL (s.L.take (k + 1)) = ghL (s.L.take k) ++ (if x.fr < 0 then [x.pg] else [])) := by
        unfold Hid; rw [take_snoc hx, ghL_snoc]
      have hpx := HP.out x (mem_get hx)
      have hgl : (ghL (s.L.take k)).length ≤ k := by unfold ghL; rw [List.length_map]; exact Nat.le_trans (List.length_filter_le _ _) (List.length_take_le _ _)
      have hkb : k < 4000 := by omega
      have HLT := Lib.hid hlt
      clear HR hx hkl
      generalize ghL (s.L.take k) = gl at *
      generalize hln : s.L.length = z at *
      have HLZ := Lib.hid hln
      clear hln
      generalize x.pg = pg at *
      have HPX := Lib.hid hpx
      clear hpx
      by_cases hg : x.fr < 0
      · have HU : Hid (ghL (s.L.take (k + 1)) = gl ++ [pg]) := by have := HT.out; rw [if_pos hg] at this; exact this
        clear HT
        generalize x.fr = fr at *
        go_wp2_with (at_builtin; go_must (refine app1 (w0 := w) rfl _ _ 35 rfl 34 i0 (.int .u32 0) 1 4 Try.underlying35 hi0 hz0 hz1 hz2 rfl (by decide) u3 gl.length _ (by rfl) HF.out #[.int .u32 (pg : Nat)] HO.out wr.heap.size rfl (by rfl) rfl (by simp [Value.oneCell']) (by omega) (by omega) 34 ?_); intro v' w2 hown' hf'; clear HF HO)
        go_roundw
        case rel => exact ⟨k + 1, HLT.out, by go_num, by rw [HU.out, List.length_append, List.map_append]; exact hown', hf'⟩
        case measure => have := HLT.out; simp [intOf]; omega
      · have HU : Hid (ghL (s.L.take (k + 1)) = gl) := by have := HT.out; rw [if_neg hg, List.append_nil] at this; exact this
        clear HT
        generalize x.fr = fr at *
        go_wp2
        go_roundw
        case rel => exact ⟨k + 1, HLT.out, by go_num, by rw [HU.out]; exact HO.out, HF.out⟩
        case measure => have := HLT.out; simp [intOf]; omega
    · obtain rfl : k = s.L.length := by omega
      have HV : Hid (SlK .u32 wr u3 (ghL (s.L.take s.L.length)) ∧ ∀ b, u3.ownBlock = some b → w.heap.size ≤ b) := ⟨OwK.sl HO.out, ownBlock_own HO.out⟩
      clear HR HO hkl hlt
      generalize s.L.length = z at *
      go_wp2
      go_returns
      exact ⟨_, rfl, by rw [HN.out]; exact HV.out.1, HV.out.2, HF.out⟩
set_option maxHeartbeats 2000000 in
theorem q_gone (h : RS w0 F pb gb ob n w s) (hp : ∀ e ∈ s.L, e.pg < 4294967296) : Calls Try.prog 70 #[.pointer (some ⟨pb, 0, none⟩)] w fun e w' => e = .returned (.int .i64 (s.gone : Nat)) ∧ Fr NoF w w' := by
  have H := Lib.hid (q_ghosts h hp)
  have HL := Lib.hid (ghL_len s)
  clear h hp
  go_enter Try.func70, Try.ntmps70
  go_wp2_with (go_at_call 45; refine H.out.mono ?_; rintro e w' ⟨gv, rfl, hs, -, hf⟩; obtain ⟨a, c, rfl, _, _⟩ := hs.shape; have HF := Lib.hid hf; clear hs hf H)
  go_returns
  exact ⟨by rw [← HL.out]; rfl, HF.out⟩
set_option maxHeartbeats 4000000 in
theorem q_end (h : RS w0 F pb gb ob n w s) {i : Nat} {x : En} (hx : s.L[i]? = some x) (hh : ∀ j, j < 3 → s.hd j < s.L.length) (hg : s.goal < 100000) : Calls Try.prog 71 #[.pointer (some ⟨pb, 0, none⟩), .int .i64 i] w fun e w' => e = .returned (.bool (decide (x.fr < 0))) ∧ RS w0 F pb gb ob n w' (s.ends i x) := by
  have H := Lib.hid (q_less h hg)
  have HX := Lib.hid hx
  have HH := Lib.hid hh
  have hi := get_lt hx
  clear h hx hh hg
  go_enter Try.func71, Try.ntmps71
  go_wp2_with fail
  refine H.out.mono ?_
  clear H
  rintro e w1 ⟨rfl, h1⟩
  have H1 := Lib.hid h1
  have hx' : s.less.L[i]? = some x := HX.out
  obtain ⟨g, cap, d3, p1, p2, p3, p4, p5, _, _, _, ⟨_, x1, _, _, _⟩, HS⟩ := h1.setEn hx'
  have hll : s.less.L.length = s.L.length := rfl
  rw [hll] at d3 p1 p5
  have hm := h1.hd.2.2.2.2.2.1
  rw [hll] at hm
  have lp := h1.lt
  have f4 := p4 (i * 5 + 4)
  by_cases hg : x.fr < 0
  · have e1 : s.ends i x = s.less.drop i := by unfold PrS.ends; rw [if_pos hg]
    have E1 := Lib.hid e1
    have E2 : Hid (decide (x.fr < 0) = true) := by simpa [Hid] using hg
    clear e1
    have HD := Lib.hid (q_drop h1 (i := i) (by exact hi) (by exact HH.out))
    clear HS h1 hx' HX H1 HH hll p4 f4
    generalize s.L.length = z at *
    generalize hfr : x.fr = fr at x1 hg
    clear hfr
    go_wp2_with fail
    refine HD.out.mono ?_
    clear HD
    rintro e w2 ⟨rfl, h2⟩
    have H2 := Lib.hid h2
    clear h2
    go_wp2
    go_returns
    exact ⟨by rw [E2.out]; rfl, by rw [E1.out]; exact H2.out⟩
  · have e1 : s.ends i x = s.less.put i { x with test := false } := by unfold PrS.ends; rw [if_neg hg]
    have E1 := Lib.hid e1
    have E2 : Hid (decide (x.fr < 0) = false) := by simpa [Hid] using hg
    clear e1
    have HK := Lib.hid (HS 4 (.bool false) { x with test := false } (by omega) (fun j hj => by match j, hj with | 0, _ | 1, _ | 2, _ | 3, _ | 4, _ => rfl))
    clear HS h1 hx' HX H1 HH hll p4
    generalize s.L.length = z at *
    generalize hfr : x.fr = fr at x1 hg
    clear hfr
    go_wp2
    go_returns
    exact ⟨by rw [E2.out]; rfl, by rw [E1.out]; exact HK.out⟩
/-- Is it the entry of a frame, or of a ghost of a page? -/
def isEn (f : Int) (p : Nat) (e : En) : Bool := decide (e.fr = f ∧ (0 ≤ f ∨ e.pg = p))
def idxV (o : Option Nat) : Value := match o with | some i => .int .i64 (i : Nat) | none => .int .i64 (-1)
theorem find_at {l : List En} {q : En → Bool} {k : Nat} {x : En} (hx : l[k]? = some x) (hq : q x = true) (hn : ∀ y ∈ l.take k, q y = false) : l.findIdx? q = some k := by
  have hl := get_lt hx
  rw [List.findIdx?_eq_some_iff_getElem]
  refine ⟨hl, ?_, fun j hj => ?_⟩
  · rw [List.getElem?_eq_getElem hl] at hx
    simp only [Option.some.injEq] at hx
    rw [hx]; exact hq
  · have := hn l[j] (by rw [List.mem_take_iff_getElem]; exact ⟨j, by omega, rfl⟩)
    simp [this]
theorem find_no {l : List En} {q : En → Bool} (hn : ∀ y ∈ l, q y = false) : l.findIdx? q = none := by
  rw [List.findIdx?_eq_none_iff]; exact hn
set_option maxHeartbeats 4000000 in
theorem q_of (h : RS w0 F pb gb ob n w s) (f : Int) (p : Nat) : Calls Try.prog 51 #[.pointer (some ⟨pb, 0, none⟩), .int .i64 f, .int .u32 p] w fun e w' => e = .returned (idxV (s.L.findIdx? (isEn f p))) ∧ Fr NoF w w' := by
  have H := Lib.hid h
  clear h
  go_enter Try.func51, Try.ntmps51
  go_wp2
  go_loopw [7] (fun i wr => ∃ k : Nat, k ≤ s.L.length ∧ i = .int .i64 k ∧ (∀ y ∈ s.L.take k, isEn f p y = false) ∧ Fr NoF w wr) (fun i _ => s.L.length - (intOf i).toNat)
  case atStart => exact ⟨0, Nat.zero_le _, rfl, fun y hy => by simp at hy, Fr.refl _ _⟩
  case round =>
    obtain ⟨k, hkl, rfl, hno, hf⟩ := hrel
    have HR := Lib.hid (H.out.fr0 hf)
    have HF := Lib.hid hf
    have HNO := Lib.hid hno
    obtain ⟨⟨a, c, c3, q1, q2⟩, _, _, _, _, hm, _⟩ := HR.out.hd
    have lp := HR.out.lt
    clear hno hf
    by_cases hlt : k < s.L.length
    · obtain ⟨x, hx⟩ : ∃ x, s.L[k]? = some x := ⟨_, List.getElem?_eq_getElem hlt⟩
      obtain ⟨g, cap, d3, p1, p2, p3, _, _, _, _, _, ⟨x0, x1, _, _, _⟩, _⟩ := HR.out.setEn hx
      rw [d3] at c3
      simp only [Option.some.injEq, Value.slice.injEq] at c3
      obtain ⟨rfl, _, rfl⟩ := c3
      have HT := Lib.hid (take_snoc hx)
      have HY : Hid (isEn f p x = true → s.L.findIdx? (isEn f p) = some k) := fun q => find_at hx q HNO.out
      have HZ : Hid (isEn f p x = false → ∀ y ∈ s.L.take (k + 1), isEn f p y = false) := fun q y hy => by
        rw [HT.out] at hy
        rcases List.mem_append.1 hy with hy | hy
        · exact HNO.out y hy
        · rw [List.mem_singleton.1 hy]; exact q
      have hkb : k < 4000 := by omega
      have HLT := Lib.hid hlt
      clear HR hx hkl HT
      generalize hln : s.L.length = z at *
      have HLZ := Lib.hid hln
      clear hln
      have hv : isEn f p x = decide (x.fr = f ∧ (0 ≤ f ∨ x.pg = p)) := rfl
      rw [hv] at HY HZ
      clear hv
      by_cases hp : x.fr = f ∧ (0 ≤ f ∨ x.pg = p)
      · have HU := Lib.hid (HY.out (by simpa using hp))
        clear HY HZ HNO
        obtain ⟨e1, hp⟩ := hp
        rw [e1] at x1
        by_cases h0 : 0 ≤ f
        · clear hp e1
          go_wp2
          go_returns
          exact ⟨by rw [HU.out]; rfl, HF.out⟩
        · have e2 : x.pg = p := hp.resolve_left h0
          rw [e2] at x0
          clear hp e1 e2
          go_wp2
          go_returns
          exact ⟨by rw [HU.out]; rfl, HF.out⟩
      · have HU := Lib.hid (HZ.out (by simpa using hp))
        clear HY HZ HNO
        by_cases e1 : x.fr = f
        · rw [e1] at x1
          have h0 : ¬ 0 ≤ f := fun q => hp ⟨e1, .inl q⟩
          have e2 : ¬ x.pg = p := fun q => hp ⟨e1, .inr q⟩
          clear hp e1
          generalize x.pg = pg at *
          go_wp2
          go_roundw
          case rel => exact ⟨k + 1, HLT.out, by go_num, HU.out, HF.out⟩
          case measure => have := HLT.out; simp [intOf]; omega
        · clear hp
          generalize x.fr = fr at *
          generalize x.pg = pg at *
          go_wp2
          go_roundw
          case rel => exact ⟨k + 1, HLT.out, by go_num, HU.out, HF.out⟩
          case measure => have := HLT.out; simp [intOf]; omega
    · obtain rfl : k = s.L.length := by omega
      have HU : Hid (s.L.findIdx? (isEn f p) = none) := find_no (fun y hy => HNO.out y (by rw [List.take_of_length_le (Nat.le_refl _)]; exact hy))
      clear HR HNO hkl hlt
      generalize s.L.length = z at *
      go_wp2
      go_returns
      exact ⟨by rw [HU.out]; rfl, HF.out⟩
end
end Go.Proofs.Ytoainbdkhhblbaa

/-
  Blocks of memory as functions, and what a call may have changed: plain facts on worlds, with no program in sight.
-/
import Derived.WalkKit
import Derived.Deep.Draws
import Derived.Deep.Quiet
import Derived.Deep.QuietTactic
namespace Go.Proofs.YtmpjnphnljakiaaGreatDoor
open Go.RowKit
set_option linter.unusedVariables false

/-- A function turned at one place. -/
def upd {α : Type} (c : Nat → α) (i : Nat) (v : α) : Nat → α := fun j => if j = i then v else c j
theorem upd_same {α : Type} (c : Nat → α) (i : Nat) (v : α) : upd c i v i = v := by simp [upd]
theorem upd_other {α : Type} (c : Nat → α) {i j : Nat} (v : α) (h : ¬ j = i) : upd c i v j = c j := by simp [upd, h]

/-- Block b of w has N cells, c 0 to c (N - 1), none of them frozen. -/
def Blk (w : World) (b N : Nat) (c : Nat → Value) : Prop :=
  ∃ cs t, w.heap[b]? = some (.cells cs t (0, 0)) ∧ cs.size = N ∧ ∀ i, i < N → cs[i]? = some (c i)

theorem Blk.lt {w : World} {b N : Nat} {c : Nat → Value} (h : Blk w b N c) : b < w.heap.size := by
  obtain ⟨cs, t, hh, _⟩ := h
  rcases Nat.lt_or_ge b w.heap.size with h' | h'
  · exact h'
  · simp [Array.getElem?_eq_none h'] at hh
theorem Blk.cell {w : World} {b N : Nat} {c : Nat → Value} (h : Blk w b N c) {i : Nat} (hi : i < N) : w.cell? ⟨b, i, none⟩ = some (c i) := by
  obtain ⟨cs, t, hh, _, hc⟩ := h
  simp [World.cell?, hh, hc i hi]
theorem Blk.frozen {w : World} {b N : Nat} {c : Nat → Value} (h : Blk w b N c) (i : Nat) : w.frozen? ⟨b, i, none⟩ = false := by
  obtain ⟨cs, t, hh, _⟩ := h
  simp [World.frozen?, hh]
theorem Blk.ofHeap {w w' : World} {b N : Nat} {c : Nat → Value} (h : Blk w b N c) (e : w'.heap[b]? = w.heap[b]?) : Blk w' b N c := by
  obtain ⟨cs, t, hh, r⟩ := h
  exact ⟨cs, t, by rw [e]; exact hh, r⟩
theorem Blk.congr {w : World} {b N : Nat} {c c' : Nat → Value} (h : Blk w b N c) (e : ∀ i, i < N → c i = c' i) : Blk w b N c' := by
  obtain ⟨cs, t, hh, hs, hc⟩ := h
  exact ⟨cs, t, hh, hs, fun i hi => by rw [← e i hi]; exact hc i hi⟩
theorem Blk.set {w : World} {b N : Nat} {c : Nat → Value} (h : Blk w b N c) (i : Nat) (v : Value) : Blk (w.setCell ⟨b, i, none⟩ v) b N (upd c i v) := by
  obtain ⟨cs, t, hh, hs, hc⟩ := h
  refine ⟨cs.setIfInBounds i v, t, ?_, by simp [hs], fun j hj => ?_⟩
  · simp [World.setCell, Array.getElem?_modify, hh]
  · rw [Array.getElem?_setIfInBounds]
    by_cases e : i = j
    · subst e; simp [upd, hs, hj]
    · rw [if_neg e, hc j hj, upd_other _ _ (fun q => e q.symm)]
theorem Blk.other {w : World} {b N : Nat} {c : Nat → Value} (h : Blk w b N c) {a : Addr} (hne : ¬ b = a.block) (v : Value) : Blk (w.setCell a v) b N c :=
  h.ofHeap (Below.heap_setCell w a v b hne)
theorem Blk.alloc {w : World} {b N : Nat} {c : Nat → Value} (h : Blk w b N c) (o : Obj) : Blk (w.alloc o) b N c :=
  h.ofHeap (Below.heap_alloc w o b h.lt)
theorem Blk.drew {w : World} {b N : Nat} {c : Nat → Value} (h : Blk w b N c) : Blk w.drew b N c := h.ofHeap rfl
theorem Blk.drewN {w : World} {b N : Nat} {c : Nat → Value} (h : Blk w b N c) (n : Nat) : Blk (w.drewN n) b N c := h.ofHeap rfl
theorem heap_alloc_new (w : World) (o : Obj) (n : Nat) (hn : n = w.heap.size) : (w.alloc o).heap[n]? = some o := by
  subst hn; show (w.heap.push o)[w.heap.size]? = _; simp
theorem Blk.new (w : World) (cs : Array Value) (t : TypeId) (N : Nat) (c : Nat → Value) (n : Nat) (hn : n = w.heap.size) (hs : cs.size = N) (hc : ∀ i, i < N → cs[i]? = some (c i)) :
    Blk (w.alloc (.cells cs t)) n N c := ⟨cs, t, heap_alloc_new w _ n hn, hs, hc⟩

/-- What a call may have changed of what was there: the blocks of F alone; whatever else there is, is new. -/
structure Fr (F : Nat → Prop) (w w' : World) : Prop where
  os : w'.os = w.os
  tape : w'.tape = w.tape
  output : w'.output = w.output
  size : w.heap.size ≤ w'.heap.size
  block : ∀ k, k < w.heap.size → ¬ F k → w'.heap[k]? = w.heap[k]?

theorem Fr.refl (F : Nat → Prop) (w : World) : Fr F w w := ⟨rfl, rfl, rfl, Nat.le_refl _, fun _ _ _ => rfl⟩
/-- Two steps; the second one may change what the first one has made, besides. -/
theorem Fr.trans {F : Nat → Prop} {a b c : World} (h : Fr F a b) {G : Nat → Prop} (k : Fr G b c) (hG : ∀ i, G i → F i ∨ a.heap.size ≤ i) : Fr F a c :=
  ⟨k.os.trans h.os, k.tape.trans h.tape, k.output.trans h.output, Nat.le_trans h.size k.size, fun i hi hF =>
    (k.block i (Nat.lt_of_lt_of_le hi h.size) (fun g => (hG i g).elim hF (fun e => by omega))).trans (h.block i hi hF)⟩
theorem Fr.mono {F G : Nat → Prop} {w w' : World} (h : Fr F w w') (hF : ∀ i, F i → G i) : Fr G w w' :=
  ⟨h.os, h.tape, h.output, h.size, fun k hk hG => h.block k hk (fun f => hG (hF k f))⟩
theorem Fr.alloc {F : Nat → Prop} {a w : World} (h : Fr F a w) (o : Obj) : Fr F a (w.alloc o) :=
  ⟨h.os, h.tape, h.output, by have := h.size; simp; omega, fun k hk hF => by rw [Below.heap_alloc w o k (Nat.lt_of_lt_of_le hk h.size)]; exact h.block k hk hF⟩
theorem Fr.setCell {F : Nat → Prop} {a w : World} (h : Fr F a w) {p : Addr} (hp : F p.block ∨ a.heap.size ≤ p.block) (v : Value) : Fr F a (w.setCell p v) :=
  ⟨h.os, h.tape, h.output, by have := h.size; simpa using this, fun k hk hF => by
    have hne : k ≠ p.block := fun e => hp.elim (fun f => hF (e ▸ f)) (fun f => by omega)
    rw [Below.heap_setCell w p v k hne]; exact h.block k hk hF⟩
theorem Fr.drew {F : Nat → Prop} {a w : World} (h : Fr F a w) : Fr F a w.drew := ⟨h.os, h.tape, h.output, h.size, h.block⟩
theorem Fr.drewN {F : Nat → Prop} {a w : World} (h : Fr F a w) (n : Nat) : Fr F a (w.drewN n) := ⟨h.os, h.tape, h.output, h.size, h.block⟩
theorem Fr.grown {F : Nat → Prop} {a w w' : World} {row : Option Nat} (h : Fr F a w) (hg : w.grownBy w' row) (hr : ∀ k, row = some k → F k ∨ a.heap.size ≤ k) : Fr F a w' :=
  ⟨hg.os.trans h.os, hg.tape.trans h.tape, hg.output.trans h.output, Nat.le_trans h.size hg.size, fun k hk hF => by
    have hs := h.size
    rw [hg.block k (by omega) (fun e => (hr k e.symm).elim hF (fun q => by omega))]; exact h.block k hk hF⟩
/-- Nothing that was there has changed. -/
def NoF : Nat → Prop := fun _ => False
theorem Fr.below {w w' : World} (h : Fr NoF w w') : Below w.heap.size w w' := ⟨h.os, h.tape, h.output, h.size, fun k hk => h.block k hk id⟩
theorem Fr.ofBelow {w w' : World} (h : Below w.heap.size w w') : Fr NoF w w' := ⟨h.os, h.tape, h.output, h.size, fun k hk _ => h.block k hk⟩
theorem Fr.none {F : Nat → Prop} {w w' : World} (h : Fr NoF w w') : Fr F w w' := h.mono (fun _ f => f.elim)
theorem Blk.fr {w w' : World} {b N : Nat} {c : Nat → Value} (h : Blk w b N c) {F : Nat → Prop} (f : Fr F w w') (hb : ¬ F b) : Blk w' b N c :=
  h.ofHeap (f.block b h.lt hb)
theorem Fr.cell {F : Nat → Prop} {w w' : World} (f : Fr F w w') {p : Addr} (hp : p.block < w.heap.size) (hF : ¬ F p.block) : w'.cell? p = w.cell? p :=
  World.cell?_of_block (w := w) (f.block p.block hp hF)
theorem Fr.frozen {F : Nat → Prop} {w w' : World} (f : Fr F w w') {p : Addr} (hp : p.block < w.heap.size) (hF : ¬ F p.block) : w'.frozen? p = w.frozen? p :=
  World.frozen?_of_block (w := w) (f.block p.block hp hF)

/-- A callee that draws nothing, inside a region that draws. -/
theorem qs {P : Program} {f : FuncId} {args : Array Value} {w : World} {n : Nat} {v : Value}
    (h : Calls P f args (w.drewN n) fun e w' => e = .returned v ∧ w.drewN n = w') : Calls P f args (w.drewN n) fun e w'' => e = .returned v ∧ ∃ m, w'' = w.drewN m :=
  h.mono fun _ _ ⟨he, hm⟩ => ⟨he, n, hm.symm⟩
/-- .. one that draws. -/
theorem qd {P : Program} {f : FuncId} {args : Array Value} {w : World} {n : Nat} {v : Value}
    (h : Calls P f args (w.drewN n) fun e w' => e = .returned v ∧ ∃ d, (w.drewN n).drewN d = w') : Calls P f args (w.drewN n) fun e w'' => e = .returned v ∧ ∃ m, w'' = w.drewN m :=
  h.mono fun _ _ ⟨he, m, hm⟩ => ⟨he, n + m, by rw [← hm, World.drewN_drewN]⟩

/-- 'append(s, x)' on a slice that the call owns, x laid in a block of its own just ahead: one element more, and nothing elder than w0 has changed. -/
theorem app1 {P : Program} {w0 w : World} {ops : Array Oper} {rest : List Oper} {o : Oper} {a : Act} {Q : Exit → Act → World → Prop} (hgd : o.guard = none) (s x : Operand) (t : TypeId)
    (ho : o.op = .call { callee := .builtin .append, args := #[s, x], argTypes := #[t, t] }) (e : TypeId) (i : TypeInfo) (z : Value) (size bytes : Nat) (ht : P.underlying t = some (.slice e)) (hi : P.info? e = some i) (hz : i.zero = some z)
    (hsize : i.size = size) (hby : i.bytes = bytes) (hzs : z.cells.size = size) (hsz : 0 < size) (v : Value) (n : Nat) (xs : List Value) (hs : a.eval s = v) (hf : Fr NoF w0 w) (cs : Array Value) (hown : w.ownsRow w0.heap.size e size v n xs)
    (g : Nat) (hg : g = w.heap.size) (hx : a.eval x = .slice (some ⟨g, 0, none⟩) 1 1) (hl : cs.size = size) (h1 : ∀ u ∈ cs.toList, u.oneCell' = true) (hb : (n + 1) * bytes ≤ 140737488355328) (h63 : n < 140737488355328) (te : TypeId)
    (h : ∀ v' w', w'.ownsRow w0.heap.size e size v' (n + 1) (xs ++ cs.toList) → Fr NoF w0 w' → wpList P ops Q rest (a.put o.dst v') w') : wpList P ops Q (o :: rest) a (w.alloc (.cells cs te)) := by
  subst hg
  have hsz' := hf.size
  refine wpList_append_own (w.alloc (.cells cs te)) hgd s x t ho w0.heap.size e i z size bytes ht hi hz hsize hby hzs hsz v n xs hs (hown.alloc _) ⟨w.heap.size, 0, none⟩ 1 1 cs.toList hx (by simp [hl]) ?_ h1 (by unfold maxLen; omega) hb (by simp; omega) ?_
  · intro j u hj
    have : ({ block := w.heap.size, off := 0, spot := none } : Addr).add j = ⟨w.heap.size, j, none⟩ := by
      cases j with
      | zero => rfl
      | succ j => simp [Addr.add]
    rw [this, World.cell?_alloc_new]
    simpa using hj
  · intro v' w' h2 h3 _
    refine h v' w' h2 ((hf.alloc _).grown h3 ?_)
    intro k hk
    right
    obtain ⟨_, h4⟩ := hown
    rcases h4 with ⟨rfl, _⟩ | ⟨g, cap, cur, rfl, hg, _⟩
    · cases hk
    · simp [Value.ownBlock] at hk; omega
end Go.Proofs.YtmpjnphnljakiaaGreatDoor

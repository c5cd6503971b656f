/-
  'm[k] = v' in two steps: the entry is had first, and stored into later. No program in sight.
-/
import Derived.Test.YtpebonpibhdfoaaMapN
import Derived.WideKeyEntry
namespace Go.Proofs.Ytpebonpibhdfoaa
open Go.RowKit Go.Maps Go.ChangeMaps Go.MapKept
set_option linter.unusedVariables false

section
variable {P : Program} {t k e : TypeId} {kq eq : IntKind} {w w' : World} {b c : Nat} {m : Int → Option Int}
theorem run_und {ty : TypeId} {d : TypeDesc} (h : P.underlying ty = some d) (w : World) : (underlying ty).run P w = .ok d w := by
  unfold underlying
  simp [go_sem, h]
theorem MpN.ofHeap (h : MpN P k e kq eq w b c m) (e' : w'.heap[b]? = w.heap[b]?) : MpN P k e kq eq w' b c m := by
  obtain ⟨D, ⟨es, clock, hb, r⟩, r2⟩ := h
  exact ⟨D, ⟨es, clock, by rw [e']; exact hb, r⟩, r2⟩
theorem fr_setBlock {o o' : Obj} (hb : w.heap[b]? = some o) : Fr (fun i => i = b) w (setBlock w b o') :=
  ⟨rfl, rfl, rfl, by simp [setBlock], fun i _ hi => by simp only [setBlock]; rw [Array.getElem?_setIfInBounds_ne (fun q => hi q.symm)]⟩
theorem at_setBlock {o o' : Obj} (hb : w.heap[b]? = some o) : (setBlock w b o').heap[b]? = some o' := by
  have hl : b < w.heap.size := by
    rcases Nat.lt_or_ge b w.heap.size with h' | h'
    · exact h'
    · simp [Array.getElem?_eq_none h'] at hb
  simp [setBlock, hl]
theorem two_steps (K : Keyed P k) (ht : P.underlying t = some (.map k e)) {z : Value} (hz : ∀ u : World, (zeroValue e).run P u = .ok z u) {R : Value → Option (DataW Unit × List MemPlace)} {es : Array MapEntry} {clock : Nat} (hb : w.heap[b]? = some (.map es clock)) (F : WideElems.Fit P k R es clock)
    {key : Value} {kl : Lit} (hkey : keyOf P k key = some kl) (val : Value) :
    ∃ (v0 : Value) (st : Nat) (es1 : Array MapEntry) (clock1 : Nat) (es2 : Array MapEntry) (clock2 : Nat), (Instr.mapEntry t (.map (some b)) key).run P w = .ok (.tuple #[v0, goInt st]) (setBlock w b (.map es1 clock1)) ∧
      (∀ w2 : World, w2.heap[b]? = some (.map es1 clock1) → (Instr.entryStore t (.map (some b)) (goInt st) val).run P w2 = .ok () (setBlock w2 b (.map es2 clock2))) ∧
      (Instr.mapUpdate t (.map (some b)) key val).run P w = .ok () (setBlock w b (.map es2 clock2)) := by
  obtain ⟨s1, s2, _⟩ := F.stamped
  rcases K.find w hkey es.toList F.keys with ⟨h1, h2⟩ | ⟨j, e0, h1, h2, h3⟩
  · have hidx : (es.push ⟨key, z, clock⟩).findIdx? (fun e => ((e.born : Nat) : Int) == ((clock : Nat) : Int)) = some es.size := by
      rw [WideElems.findIdx_arr]
      refine WideElems.findIdx_born (l := (es.push ⟨key, z, clock⟩).toList) (j := es.size) (e0 := ⟨key, z, clock⟩) ?_ (by simp)
      rw [Array.toList_push, List.map_append]
      refine List.nodup_append.2 ⟨s2, by simp, fun x hx y hy q => ?_⟩
      obtain ⟨e1, he1, rfl⟩ := List.mem_map.1 hx
      have hy : y = clock := by simpa using hy
      have := s1 e1 he1
      omega
    have hmod : (es.push ⟨key, z, clock⟩).modify es.size (fun e => { e with val := val }) = es.push ⟨key, val, clock⟩ := by
      apply Array.ext'
      rw [Array.toList_modify, Array.toList_push, Array.toList_push, ← Array.length_toList, WideElems.modify_last]
    refine ⟨z, clock, es.push ⟨key, z, clock⟩, clock + 1, es.push ⟨key, val, clock⟩, clock + 1, ?_, fun w2 hw2 => ?_, ?_⟩
    · simp [Instr.mapEntry, Go.Proofs.Ytpebonpibhdfoaa.run_und ht, MapKept.run_getObj_map hb, K.check w false hkey, h1, hz, MapKept.run_setObj_map _ hb, Result.andThen, setBlock]
    · simp [Instr.entryStore, MapKept.run_getObj_map hw2, asInt, asIntOf, goInt, hidx, hmod, MapKept.run_setObj_map _ hw2, Result.andThen, setBlock]
    · simp [Instr.mapUpdate, Go.Proofs.Ytpebonpibhdfoaa.run_und ht, MapKept.run_getObj_map hb, K.check w false hkey, h1, MapKept.run_setObj_map _ hb, Result.andThen, setBlock]
  · have hj : es[j]? = some e0 := by simpa using h2
    have hsame : es.modify j (fun e => { e with key := key }) = es := by
      apply Array.ext'
      rw [Array.toList_modify, modify_eq_set _ _ _ _ h2, show ({ e0 with key := key } : MapEntry) = e0 from by rw [← h3]]
      exact WideElems.set_self _ _ _ h2
    have hidx : es.findIdx? (fun e => ((e.born : Nat) : Int) == ((e0.born : Nat) : Int)) = some j := by
      rw [WideElems.findIdx_arr]
      exact WideElems.findIdx_born s2 h2
    have hmod : es.modify j (fun e => { e with val := val }) = es.modify j (fun e' => { e' with key := key, val := val }) := by
      apply Array.ext'
      rw [Array.toList_modify, Array.toList_modify, modify_eq_set _ _ _ _ h2, modify_eq_set _ _ _ _ h2, ← h3]
    refine ⟨e0.val, e0.born, es, clock, es.modify j (fun e' => { e' with key := key, val := val }), clock, ?_, fun w2 hw2 => ?_, ?_⟩
    · simp [Instr.mapEntry, Go.Proofs.Ytpebonpibhdfoaa.run_und ht, MapKept.run_getObj_map hb, K.check w false hkey, h1, hj, h3, K.stays w hkey, hsame, MapKept.run_setObj_map _ hb, Result.andThen, setBlock]
    · simp [Instr.entryStore, MapKept.run_getObj_map hw2, asInt, asIntOf, goInt, hidx, hmod, MapKept.run_setObj_map _ hw2, Result.andThen, setBlock]
    · simp [Instr.mapUpdate, Go.Proofs.Ytpebonpibhdfoaa.run_und ht, MapKept.run_getObj_map hb, K.check w false hkey, h1, hj, h3, K.stays w hkey, MapKept.run_setObj_map _ hb, Result.andThen, setBlock]
/-- An entry is had; behind that it is stored into. -/
theorem MpN.entry (M : MI P t k e kq eq) (h : MpN P k e kq eq w b c m) (hc : c < 1000000) {x y : Int} (hx : (Lit.int kq x).wf = true) (hy : (Lit.int eq y).wf = true) :
    ∃ (v0 : Value) (st : Nat) (w1 w2 : World), (Instr.mapEntry t (.map (some b)) (.int kq x)).run P w = .ok (.tuple #[v0, .int .i64 (st : Int)]) w1 ∧ (Instr.entryStore t (.map (some b)) (.int .i64 (st : Int)) (.int eq y)).run P w1 = .ok () w2 ∧
      Fr (fun i => i = b) w w1 ∧ MpN P k e kq eq w2 b (if (m x).isSome then c else c + 1) (updI m x (some y)) ∧ Fr (fun i => i = b) w w2 := by
  obtain ⟨D, h1, h2, h3⟩ := h
  have K := int_keyed M.uk
  have hh1 := h1
  obtain ⟨es, clock, hb, F, hs, hD⟩ := hh1
  obtain ⟨v0, st, es1, clock1, es2, clock2, r1, r2, r3⟩ := two_steps K M.ut M.z hb F (keyOf_int_mk M.uk hx) (.int eq y)
  obtain ⟨w'', q1, q2, q3⟩ := h1.update K M.ut (by unfold maxLen; omega) (keyOf_int_mk M.uk hx) (plainElem_int M.ue hy)
  rw [r3] at q1
  obtain rfl : setBlock w b (.map es2 clock2) = w'' := by injection q1
  have hb1 := at_setBlock (o' := .map es1 clock1) hb
  have f1 := fr_setBlock (o' := .map es1 clock1) hb
  refine ⟨v0, st, _, _, r1, r2 _ hb1, f1, ?_, f1.trans (fr_setBlock hb1) (fun i q => .inl q)⟩
  refine (MpN.put_of M q2 (h1.tidy K) h2 h3 hx).ofHeap ?_
  rw [at_setBlock hb1, at_setBlock hb]
/-- 'm[k] = v' at the run. -/
theorem MpN.put_run (M : MI P t k e kq eq) (h : MpN P k e kq eq w b c m) (hc : c < 1000000) {x y : Int} (hx : (Lit.int kq x).wf = true) (hy : (Lit.int eq y).wf = true) :
    ∃ w', (Instr.mapUpdate t (.map (some b)) (.int kq x) (.int eq y)).run P w = .ok () w' ∧ MpN P k e kq eq w' b (if (m x).isSome then c else c + 1) (updI m x (some y)) ∧ Fr (fun i => i = b) w w' := by
  obtain ⟨D, h1, h2, h3⟩ := h
  have K := int_keyed M.uk
  have hh1 := h1
  obtain ⟨es, clock, hb, F, hs, hD⟩ := hh1
  obtain ⟨v0, st, es1, clock1, es2, clock2, r1, r2, r3⟩ := two_steps K M.ut M.z hb F (keyOf_int_mk M.uk hx) (.int eq y)
  obtain ⟨w'', q1, q2, q3⟩ := h1.update K M.ut (by unfold maxLen; omega) (keyOf_int_mk M.uk hx) (plainElem_int M.ue hy)
  rw [r3] at q1
  obtain rfl : setBlock w b (.map es2 clock2) = w'' := by injection q1
  exact ⟨_, r3, MpN.put_of M q2 (h1.tidy K) h2 h3 hx, fr_setBlock hb⟩
/-- 'delete(m, k)' at the run. -/
theorem MpN.del_run (M : MI P t k e kq eq) (h : MpN P k e kq eq w b c m) {x : Int} (hx : (Lit.int kq x).wf = true) (ty : TypeId) :
    ∃ w', (Builtin.delete_ #[t, k] ty #[.map (some b), .int kq x]).run P w = .ok (.tuple #[]) w' ∧ MpN P k e kq eq w' b (if (m x).isSome then c - 1 else c) (updI m x none) ∧ Fr (fun i => i = b) w w' := by
  obtain ⟨D, h1, h2, h3⟩ := h
  have K := int_keyed M.uk
  obtain ⟨w', r, q1, q2⟩ := h1.drop K M.ut (keyOf_int_mk M.uk hx) ty
  exact ⟨w', r, MpN.del_of q1 (h1.tidy K) h2 h3 hx, turned_fr q2⟩
/-- .. inside a region that draws its order. -/
theorem delS {ops : Array Oper} {o : Oper} {a : Act} {Q : Exit → Act → World → Prop} {K : Act → World → Prop} {E : Prop} (M : MI P t k e kq eq) (h : MpN P k e kq eq w b c m) (hg : o.guard = none) (mo xo : Operand) (hop : o.op = Op.call { callee := Callee.builtin Builtin.delete, args := #[mo, xo], argTypes := #[t, k] }) (hm : a.eval mo = .map (some b)) {x : Int} (hx : a.eval xo = .int kq x) (hw : (Lit.int kq x).wf = true)
    (hK : ∀ w', MpN P k e kq eq w' b (if (m x).isSome then c - 1 else c) (updI m x none) → Fr (fun i => i = b) w w' → K (a.put o.dst (.tuple #[])) w') :
    if Region.wanted o (yielded ops a.tmps) = true then Oper.wp P o a w K Q else E := by
  have hwn : Region.wanted o (yielded ops a.tmps) = true := by simp [Region.wanted, hg]
  rw [if_pos hwn]
  obtain ⟨w', hrun, r1, r2⟩ := h.del_run M hw o.type
  unfold Oper.wp
  simp [execOp, hop, resolve, invoke, builtin, hm, hx, hrun, Result.andThen]
  exact hK _ r1 r2
end
end Go.Proofs.Ytpebonpibhdfoaa

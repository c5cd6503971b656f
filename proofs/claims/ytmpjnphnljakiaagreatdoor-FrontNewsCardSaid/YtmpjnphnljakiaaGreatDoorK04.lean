/-
  A map in memory whose keys are numbers, as a function to whatever values there are (structs of many cells, too); its look-up, store, delete. No program in sight.
-/
import Derived.Test.YtmpjnphnljakiaaGreatDoorK02
import Derived.Test.YtmpjnphnljakiaaGreatDoorK03
import Derived.Maps.OwnSet
import Derived.Maps.OwnOps
import Derived.WalkArith
namespace Go.Proofs.YtmpjnphnljakiaaGreatDoor
open Go.RowKit Go.Maps
set_option linter.unusedVariables false

/-- A value is read as it is. -/
def rdV (v : Value) : Option (DataW Value × List MemPlace) := some (.held v, [])
/-- A function turned at one place. -/
def updV (m : Int → Option Value) (x : Int) (y : Option Value) : Int → Option Value := fun z => if z = x then y else m z
theorem updV_same (m : Int → Option Value) (x : Int) (y : Option Value) : updV m x y x = y := by simp [updV]
theorem updV_other (m : Int → Option Value) {x z : Int} (y : Option Value) (h : ¬ z = x) : updV m x y z = m z := by simp [updV, h]
/-- What the table says of a map's type: z0: what an element is at first. -/
structure MV (P : Program) (t k e : TypeId) (kq : IntKind) (z0 : Value) : Prop where
  ut : P.underlying t = some (.map k e)
  uk : P.underlying k = some (.int kq)
  z : ∀ w : World, (zeroValue e).run P w = .ok z0 w
def SeesV (kq : IntKind) (z0 : Value) (D : DataW Value) (m : Int → Option Value) : Prop := ∀ x, (Lit.int kq x).wf = true → (m x = none → Maps.has D (.int kq x) = false) ∧ ∀ y, m x = some y → Maps.has D (.int kq x) = true ∧ D.atKey (.int kq x) (.held z0) = .held y
/-- Block b is a map of c values, m. -/
def MpV (P : Program) (k : TypeId) (kq : IntKind) (z0 : Value) (w : World) (b c : Nat) (m : Int → Option Value) : Prop :=
  ∃ D : DataW Value, w.ownsMap P k rdV b c D ∧ Maps.size D = c ∧ SeesV kq z0 D m

section
variable {P : Program} {t k e : TypeId} {kq : IntKind} {z0 : Value} {w w' : World} {b c : Nat} {m : Int → Option Value}
theorem owns_tightV {R : Value → Option (DataW Value × List MemPlace)} {n : Nat} {D : DataW Value} (h : w.ownsMap P k R b n D) : w.ownsMap P k R b (Maps.size D) D := by
  obtain ⟨es, clock, hb, F, hs, rfl⟩ := h
  exact ⟨es, clock, hb, F, by rw [Maps.size_eq, length_read]; exact Nat.le_refl _, rfl⟩
theorem MpV.lt (h : MpV P k kq z0 w b c m) : b < w.heap.size := by obtain ⟨D, h, _⟩ := h; exact h.lt
theorem MpV.fr (h : MpV P k kq z0 w b c m) {G : Nat → Prop} (f : Fr G w w') (hG : ¬ G b) : MpV P k kq z0 w' b c m := by
  have hl := h.lt
  obtain ⟨D, ⟨es, clock, hb, r⟩, r2⟩ := h
  exact ⟨D, ⟨es, clock, by rw [f.block b hl hG]; exact hb, r⟩, r2⟩
theorem MpV.ofHeap (h : MpV P k kq z0 w b c m) (e' : w'.heap[b]? = w.heap[b]?) : MpV P k kq z0 w' b c m := by
  obtain ⟨D, ⟨es, clock, hb, r⟩, r2⟩ := h
  exact ⟨D, ⟨es, clock, by rw [e']; exact hb, r⟩, r2⟩
theorem MpV.alloc (h : MpV P k kq z0 w b c m) (o : Obj) : MpV P k kq z0 (w.alloc o) b c m := h.ofHeap (Below.heap_alloc w o b h.lt)
theorem MpV.made (P : Program) (k : TypeId) (kq : IntKind) (z0 : Value) (w : World) : MpV P k kq z0 (w.alloc (.map #[] 0)) w.heap.size 0 (fun _ => none) :=
  ⟨.map [], World.ownsMap_made w P k _, rfl, fun x _ => ⟨fun _ => rfl, fun y q => (by cases q)⟩⟩

theorem MpV.put_of {D : DataW Value} (M : MV P t k e kq z0) {n : Nat} {x : Int} {y : Value} (h : w'.ownsMap P k rdV b n (D.put (.int kq x) (.held y))) (ht : Tidy D) (hs : Maps.size D = c) (hv : SeesV kq z0 D m) (hx : (Lit.int kq x).wf = true) :
    MpV P k kq z0 w' b (if (m x).isSome then c else c + 1) (updV m x (some y)) := by
  have hsz := size_put (k := .int kq x) ht (.held y)
  have hh : Maps.has D (.int kq x) = (m x).isSome := by
    cases em : m x with
    | none => exact (hv x hx).1 em
    | some z => exact ((hv x hx).2 z em).1
  rw [hs, hh] at hsz
  refine ⟨_, by rw [← hsz]; exact owns_tightV h, hsz, fun z hz => ?_⟩
  by_cases e1 : z = x
  · subst e1
    rw [updV_same]
    exact ⟨fun q => (by cases q), fun y' q => by cases q; exact ⟨has_put_same ht.isMap keyLit _, atKey_put_same ht.isMap keyLit _ _⟩⟩
  · rw [updV_other _ _ e1]
    have ne : Lit.int kq z ≠ Lit.int kq x := fun q => e1 (by cases q; rfl)
    rw [has_put_other ne, atKey_put_other ne]
    exact hv z hz
theorem MpV.del_of {D : DataW Value} (M : MV P t k e kq z0) {n : Nat} {x : Int} (h : w'.ownsMap P k rdV b n (D.del (.int kq x))) (ht : Tidy D) (hs : Maps.size D = c) (hv : SeesV kq z0 D m) (hx : (Lit.int kq x).wf = true) :
    MpV P k kq z0 w' b (if (m x).isSome then c - 1 else c) (updV m x none) := by
  have hsz := size_del (k := .int kq x) ht
  have hh : Maps.has D (.int kq x) = (m x).isSome := by
    cases em : m x with
    | none => exact (hv x hx).1 em
    | some z => exact ((hv x hx).2 z em).1
  rw [hs, hh] at hsz
  have hsz' : Maps.size (D.del (.int kq x)) = if (m x).isSome then c - 1 else c := by
    split at hsz
    · rename_i q; rw [if_pos q]; omega
    · rename_i q; rw [if_neg q]; omega
  refine ⟨_, by rw [← hsz']; exact owns_tightV h, hsz', fun z hz => ?_⟩
  by_cases e1 : z = x
  · subst e1
    rw [updV_same]
    exact ⟨fun _ => has_del_same, fun y' q => (by cases q)⟩
  · rw [updV_other _ _ e1]
    have ne : Lit.int kq z ≠ Lit.int kq x := fun q => e1 (by cases q; rfl)
    rw [has_del_other ne, atKey_del_other ne]
    exact hv z hz
theorem MpV.sees (h : MpV P k kq z0 w b c m) : ∃ D : DataW Value, w.ownsMap P k rdV b c D ∧ ∀ x, (Lit.int kq x).wf = true → Maps.has D (.int kq x) = (m x).isSome ∧ D.atKey (.int kq x) (.held z0) = .held ((m x).getD z0) := by
  obtain ⟨D, h1, h2, h3⟩ := h
  refine ⟨D, h1, fun x hx => ?_⟩
  cases em : m x with
  | none => have := (h3 x hx).1 em; exact ⟨this, by rw [atKey_of_not_has this]; rfl⟩
  | some z => exact (h3 x hx).2 z em

/-- Look-ups as equations. -/
theorem MpV.look_ok_run (M : MV P t k e kq z0) (h : MpV P k kq z0 w b c m) {x : Int} (hx : (Lit.int kq x).wf = true) : (Instr.lookup t (.map (some b)) (.int kq x) true).run P w = .ok (.tuple #[(m x).getD z0, .bool (m x).isSome]) w := by
  obtain ⟨D, h1, h2⟩ := h.sees
  obtain ⟨q1, q2⟩ := h2 x hx
  obtain ⟨v, ps, hrun, hv⟩ := h1.look_ok (int_keyed M.uk) M.ut (M.z w) (zd := .held z0) (zp := []) rfl (keyOf_int_mk M.uk hx)
  rw [q2] at hv
  simp only [rdV, Option.some.injEq, Prod.mk.injEq, DataW.held.injEq] at hv
  rw [hrun, q1, hv.1]
theorem MpV.look_run (M : MV P t k e kq z0) (h : MpV P k kq z0 w b c m) {x : Int} (hx : (Lit.int kq x).wf = true) : (Instr.lookup t (.map (some b)) (.int kq x) false).run P w = .ok ((m x).getD z0) w := by
  have hh := h
  obtain ⟨D, h1, h2⟩ := h.sees
  obtain ⟨q1, q2⟩ := h2 x hx
  obtain ⟨es, clock, hb, F, _, rfl⟩ := h1
  rcases Maps.fit_look false (int_keyed M.uk) M.ut (M.z w) hb F (keyOf_int_mk M.uk hx) with ⟨hrun, _, hat⟩ | ⟨e0, y, _, _, hrun, hRv, hat, _⟩
  · rw [hat (.held z0)] at q2
    simp only [DataW.held.injEq] at q2
    rw [← q2]; exact hrun
  · rw [hat (.held z0)] at q2
    simp only [rdV, Option.some.injEq] at hRv
    rw [← hRv] at q2
    simp only [DataW.held.injEq] at q2
    rw [← q2]; exact hrun
theorem MpV.put_run (M : MV P t k e kq z0) (h : MpV P k kq z0 w b c m) (hc : c < 1000000) {x : Int} (hx : (Lit.int kq x).wf = true) (y : Value) :
    ∃ w', (Instr.mapUpdate t (.map (some b)) (.int kq x) y).run P w = .ok () w' ∧ MpV P k kq z0 w' b (if (m x).isSome then c else c + 1) (updV m x (some y)) ∧ Fr (fun i => i = b) w w' := by
  obtain ⟨D, h1, h2, h3⟩ := h
  have K := int_keyed M.uk
  obtain ⟨w', r1, r2, r3⟩ := h1.store K M.ut (by unfold maxLen; omega) (keyOf_int_mk M.uk hx) (val := y) (d := .held y) (ps := []) rfl
  exact ⟨w', r1, MpV.put_of M r2 (h1.tidy K) h2 h3 hx, turned_fr r3⟩
theorem MpV.del_run (M : MV P t k e kq z0) (h : MpV P k kq z0 w b c m) {x : Int} (hx : (Lit.int kq x).wf = true) (ty : TypeId) :
    ∃ w', (Builtin.delete_ #[t, k] ty #[.map (some b), .int kq x]).run P w = .ok (.tuple #[]) w' ∧ MpV P k kq z0 w' b (if (m x).isSome then c - 1 else c) (updV m x none) ∧ Fr (fun i => i = b) w w' := by
  obtain ⟨D, h1, h2, h3⟩ := h
  have K := int_keyed M.uk
  obtain ⟨w', r, q1, q2⟩ := h1.drop K M.ut (keyOf_int_mk M.uk hx) ty
  exact ⟨w', r, MpV.del_of M q1 (h1.tidy K) h2 h3 hx, turned_fr q2⟩

variable {ops : Array Oper} {rest : List Oper} {o : Oper} {a : Act} {Q : Exit → Act → World → Prop}
/-- 'v, ok := m[k]'. -/
theorem wp_lookV (M : MV P t k e kq z0) (h : MpV P k kq z0 w b c m) (hg : o.guard = none) (mo xo : Operand) (hop : o.op = Op.lookup t mo xo true) (hm : a.eval mo = .map (some b)) {x : Int} (hx : a.eval xo = .int kq x) (hw : (Lit.int kq x).wf = true)
    (hK : wpList P ops Q rest (a.put o.dst (.tuple #[(m x).getD z0, .bool (m x).isSome])) w) : wpList P ops Q (o :: rest) a w := by
  refine wpList_plain hg fun K' hK' => ?_
  have hrun := h.look_ok_run M hw
  unfold Oper.wp
  simp [execOp, hop, hm, hx, hrun, Result.andThen]
  exact hK' _ _ hK
theorem wp_lookV_some (M : MV P t k e kq z0) (h : MpV P k kq z0 w b c m) {x : Int} {y : Value} (hmx : m x = some y) (hg : o.guard = none) (mo xo : Operand) (hop : o.op = Op.lookup t mo xo true) (hm : a.eval mo = .map (some b)) (hx : a.eval xo = .int kq x) (hw : (Lit.int kq x).wf = true)
    (hK : wpList P ops Q rest (a.put o.dst (.tuple #[y, .bool true])) w) : wpList P ops Q (o :: rest) a w :=
  wp_lookV M h hg mo xo hop hm hx hw (by rw [hmx]; exact hK)
theorem wp_lookV_none (M : MV P t k e kq z0) (h : MpV P k kq z0 w b c m) {x : Int} (hmx : m x = none) (hg : o.guard = none) (mo xo : Operand) (hop : o.op = Op.lookup t mo xo true) (hm : a.eval mo = .map (some b)) (hx : a.eval xo = .int kq x) (hw : (Lit.int kq x).wf = true)
    (hK : wpList P ops Q rest (a.put o.dst (.tuple #[z0, .bool false])) w) : wpList P ops Q (o :: rest) a w :=
  wp_lookV M h hg mo xo hop hm hx hw (by rw [hmx]; exact hK)
/-- 'm[k]'. -/
theorem wp_atV (M : MV P t k e kq z0) (h : MpV P k kq z0 w b c m) (hg : o.guard = none) (mo xo : Operand) (hop : o.op = Op.lookup t mo xo false) (hm : a.eval mo = .map (some b)) {x : Int} (hx : a.eval xo = .int kq x) (hw : (Lit.int kq x).wf = true) {y : Value} (hy : (m x).getD z0 = y)
    (hK : wpList P ops Q rest (a.put o.dst y) w) : wpList P ops Q (o :: rest) a w := by
  subst hy
  refine wpList_plain hg fun K' hK' => ?_
  have hrun := h.look_run M hw
  unfold Oper.wp
  simp [execOp, hop, hm, hx, hrun, Result.andThen]
  exact hK' _ _ hK
/-- 'm[k] = v'. -/
theorem wp_putV (M : MV P t k e kq z0) (h : MpV P k kq z0 w b c m) (hc : c < 1000000) (hg : o.guard = none) (mo xo vo : Operand) (hop : o.op = Op.mapUpdate t mo xo vo) (hm : a.eval mo = .map (some b)) {x : Int} {y : Value} (hx : a.eval xo = .int kq x) (hv : a.eval vo = y) (hw : (Lit.int kq x).wf = true)
    (hK : ∀ w', MpV P k kq z0 w' b (if (m x).isSome then c else c + 1) (updV m x (some y)) → Fr (fun i => i = b) w w' → wpList P ops Q rest (a.put o.dst undef) w') : wpList P ops Q (o :: rest) a w := by
  obtain ⟨w', hrun, h1, h2⟩ := h.put_run M hc hw y
  refine wpList_plain hg fun K' hK' => ?_
  unfold Oper.wp
  simp [execOp, hop, hm, hx, hv, hrun, Result.andThen]
  exact hK' _ _ (hK _ h1 h2)
/-- 'delete(m, k)'. -/
theorem wp_delV (M : MV P t k e kq z0) (h : MpV P k kq z0 w b c m) (hg : o.guard = none) (mo xo : Operand) (hop : o.op = Op.call { callee := Callee.builtin Builtin.delete, args := #[mo, xo], argTypes := #[t, k] }) (hm : a.eval mo = .map (some b)) {x : Int} (hx : a.eval xo = .int kq x) (hw : (Lit.int kq x).wf = true)
    (hK : ∀ w', MpV P k kq z0 w' b (if (m x).isSome then c - 1 else c) (updV m x none) → Fr (fun i => i = b) w w' → wpList P ops Q rest (a.put o.dst (.tuple #[])) w') : wpList P ops Q (o :: rest) a w := by
  obtain ⟨w', hrun, h1, h2⟩ := h.del_run M hw o.type
  refine wpList_plain hg fun K' hK' => ?_
  unfold Oper.wp
  simp [execOp, hop, resolve, invoke, builtin, hm, hx, hrun, Result.andThen]
  exact hK' _ _ (hK _ h1 h2)
/-- .. inside a region that draws its order. -/
theorem putSV {K : Act → World → Prop} {E : Prop} (M : MV P t k e kq z0) (h : MpV P k kq z0 w b c m) (hc : c < 1000000) (hg : o.guard = none) (mo xo vo : Operand) (hop : o.op = Op.mapUpdate t mo xo vo) (hm : a.eval mo = .map (some b)) {x : Int} {y : Value} (hx : a.eval xo = .int kq x) (hv : a.eval vo = y) (hw : (Lit.int kq x).wf = true)
    (hK : ∀ w', MpV P k kq z0 w' b (if (m x).isSome then c else c + 1) (updV m x (some y)) → Fr (fun i => i = b) w w' → K (a.put o.dst undef) w') :
    if Region.wanted o (yielded ops a.tmps) = true then Oper.wp P o a w K Q else E := by
  have hwn : Region.wanted o (yielded ops a.tmps) = true := by simp [Region.wanted, hg]
  rw [if_pos hwn]
  obtain ⟨w', hrun, h1, h2⟩ := h.put_run M hc hw y
  unfold Oper.wp
  simp [execOp, hop, hm, hx, hv, hrun, Result.andThen]
  exact hK _ h1 h2
end
end Go.Proofs.YtmpjnphnljakiaaGreatDoor

/-
  A map of numbers in memory, as a function; its look-up, store, delete at the operation. No program in sight.
-/
import Derived.Test.YtmpjnphnljakiaaGreatDoorK02
import Derived.Maps.OwnSet
import Derived.Maps.OwnOps
import Derived.WalkArith
namespace Go.Proofs.YtmpjnphnljakiaaGreatDoor
open Go.RowKit Go.Maps
set_option linter.unusedVariables false

/-- A function turned at one place. -/
def updI (m : Int → Option Int) (x : Int) (y : Option Int) : Int → Option Int := fun z => if z = x then y else m z
theorem updI_same (m : Int → Option Int) (x : Int) (y : Option Int) : updI m x y x = y := by simp [updI]
theorem updI_other (m : Int → Option Int) {x z : Int} (y : Option Int) (h : ¬ z = x) : updI m x y z = m z := by simp [updI, h]
/-- What the table says of a map's type. -/
structure MI (P : Program) (t k e : TypeId) (kq eq : IntKind) : Prop where
  ut : P.underlying t = some (.map k e)
  uk : P.underlying k = some (.int kq)
  ue : P.underlying e = some (.int eq)
  z : ∀ w : World, (zeroValue e).run P w = .ok (.int eq 0) w
def Sees (kq eq : IntKind) (D : DataW Unit) (m : Int → Option Int) : Prop := ∀ x, (Lit.int kq x).wf = true → (m x = none → Maps.has D (.int kq x) = false) ∧ ∀ y, m x = some y → Maps.has D (.int kq x) = true ∧ D.atKey (.int kq x) (.lit (.int eq 0)) = .lit (.int eq y)
/-- Block b is a map of c numbers, m. -/
def MpN (P : Program) (k e : TypeId) (kq eq : IntKind) (w : World) (b c : Nat) (m : Int → Option Int) : Prop :=
  ∃ D : DataW Unit, w.ownsMap P k (plainElem P e) b c D ∧ Maps.size D = c ∧ Sees kq eq D m

section
variable {P : Program} {t k e : TypeId} {kq eq : IntKind} {w w' : World} {b c : Nat} {m : Int → Option Int}
theorem owns_tight {R : Value → Option (DataW Unit × List MemPlace)} {n : Nat} {D : DataW Unit} (h : w.ownsMap P k R b n D) : w.ownsMap P k R b (Maps.size D) D := by
  obtain ⟨es, clock, hb, F, hs, rfl⟩ := h
  exact ⟨es, clock, hb, F, by rw [Maps.size_eq, length_read]; exact Nat.le_refl _, rfl⟩
theorem MpN.lt (h : MpN P k e kq eq w b c m) : b < w.heap.size := by obtain ⟨D, h, _⟩ := h; exact h.lt
theorem MpN.fr (h : MpN P k e kq eq w b c m) {G : Nat → Prop} (f : Fr G w w') (hG : ¬ G b) : MpN P k e kq eq w' b c m := by
  have hl := h.lt
  obtain ⟨D, ⟨es, clock, hb, r⟩, r2⟩ := h
  exact ⟨D, ⟨es, clock, by rw [f.block b hl hG]; exact hb, r⟩, r2⟩
theorem MpN.made (P : Program) (k e : TypeId) (kq eq : IntKind) (w : World) : MpN P k e kq eq (w.alloc (.map #[] 0)) w.heap.size 0 (fun _ => none) :=
  ⟨.map [], World.ownsMap_made w P k _, rfl, fun x _ => ⟨fun _ => rfl, fun y q => (by cases q)⟩⟩
theorem turned_fr (h : w.mapTurned w' b) : Fr (fun i => i = b) w w' := (Fr.refl _ w).grown h.grown (fun i q => .inl (by cases q; rfl))
theorem keyLit {x : Int} : WideAt.IsKeyLit (Lit.int kq x) := trivial

theorem MpN.put_of {D : DataW Unit} (M : MI P t k e kq eq) {n : Nat} {x y : Int} (h : w'.ownsMap P k (plainElem P e) b n (D.put (.int kq x) (.lit (.int eq y)))) (ht : Tidy D) (hs : Maps.size D = c) (hv : Sees kq eq D m) (hx : (Lit.int kq x).wf = true) :
    MpN P k e kq eq w' b (if (m x).isSome then c else c + 1) (updI m x (some y)) := by
  have hsz := size_put (k := .int kq x) ht (.lit (.int eq y))
  have hh : Maps.has D (.int kq x) = (m x).isSome := by
    cases em : m x with
    | none => exact (hv x hx).1 em
    | some z => exact ((hv x hx).2 z em).1
  rw [hs, hh] at hsz
  refine ⟨_, by rw [← hsz]; exact owns_tight h, hsz, fun z hz => ?_⟩
  by_cases e1 : z = x
  · subst e1
    rw [updI_same]
    exact ⟨fun q => (by cases q), fun y' q => by cases q; exact ⟨has_put_same ht.isMap keyLit _, atKey_put_same ht.isMap keyLit _ _⟩⟩
  · rw [updI_other _ _ e1]
    have ne : Lit.int kq z ≠ Lit.int kq x := fun q => e1 (by cases q; rfl)
    rw [has_put_other ne, atKey_put_other ne]
    exact hv z hz
theorem MpN.del_of {D : DataW Unit} {n : Nat} {x : Int} (h : w'.ownsMap P k (plainElem P e) b n (D.del (.int kq x))) (ht : Tidy D) (hs : Maps.size D = c) (hv : Sees kq eq D m) (hx : (Lit.int kq x).wf = true) :
    MpN P k e kq eq w' b (if (m x).isSome then c - 1 else c) (updI m x none) := by
  have hsz := size_del (k := .int kq x) ht
  have hh : Maps.has D (.int kq x) = (m x).isSome := by
    cases em : m x with
    | none => exact (hv x hx).1 em
    | some z => exact ((hv x hx).2 z em).1
  rw [hs, hh] at hsz
  have hsz' : Maps.size (D.del (.int kq x)) = if (m x).isSome then c - 1 else c := by
    split at hsz
    · rename_i q; rw [if_pos q]; omega
    · rename_i q; rw [if_neg q]; omega
  refine ⟨_, by rw [← hsz']; exact owns_tight h, hsz', fun z hz => ?_⟩
  by_cases e1 : z = x
  · subst e1
    rw [updI_same]
    exact ⟨fun _ => has_del_same, fun y' q => (by cases q)⟩
  · rw [updI_other _ _ e1]
    have ne : Lit.int kq z ≠ Lit.int kq x := fun q => e1 (by cases q; rfl)
    rw [has_del_other ne, atKey_del_other ne]
    exact hv z hz

variable {ops : Array Oper} {rest : List Oper} {o : Oper} {a : Act} {Q : Exit → Act → World → Prop}
/-- 'v, ok := m[k]'. -/
theorem wp_lookN (M : MI P t k e kq eq) (h : MpN P k e kq eq w b c m) (hg : o.guard = none) (mo xo : Operand) (hop : o.op = Op.lookup t mo xo true) (hm : a.eval mo = .map (some b)) {x : Int} (hx : a.eval xo = .int kq x) (hw : (Lit.int kq x).wf = true)
    (hK : wpList P ops Q rest (a.put o.dst (.tuple #[.int eq ((m x).getD 0), .bool (m x).isSome])) w) : wpList P ops Q (o :: rest) a w := by
  obtain ⟨D, h1, h2, h3⟩ := h
  refine wpList_lookup_own_ok_int w hg mo xo t hop k e eq (int_keyed M.uk) M.ut M.ue (M.z w) b c D hm h1 _ _ hx (keyOf_int_mk M.uk hw) (fun cc hat hwc => ?_)
  have : (Maps.has D (.int kq x)) = (m x).isSome ∧ cc = (m x).getD 0 := by
    cases em : m x with
    | none =>
      have hh := (h3 x hw).1 em
      refine ⟨hh, ?_⟩
      rw [atKey_of_not_has hh] at hat
      simpa using hat.symm
    | some z =>
      obtain ⟨q1, q2⟩ := (h3 x hw).2 z em
      refine ⟨q1, ?_⟩
      rw [q2] at hat
      simpa using hat.symm
  rw [this.1, this.2]
  exact hK
theorem wp_lookN_some (M : MI P t k e kq eq) (h : MpN P k e kq eq w b c m) {x y : Int} (hmx : m x = some y) (hg : o.guard = none) (mo xo : Operand) (hop : o.op = Op.lookup t mo xo true) (hm : a.eval mo = .map (some b)) (hx : a.eval xo = .int kq x) (hw : (Lit.int kq x).wf = true)
    (hK : wpList P ops Q rest (a.put o.dst (.tuple #[.int eq y, .bool true])) w) : wpList P ops Q (o :: rest) a w :=
  wp_lookN M h hg mo xo hop hm hx hw (by rw [hmx]; exact hK)
theorem wp_lookN_none (M : MI P t k e kq eq) (h : MpN P k e kq eq w b c m) {x : Int} (hmx : m x = none) (hg : o.guard = none) (mo xo : Operand) (hop : o.op = Op.lookup t mo xo true) (hm : a.eval mo = .map (some b)) (hx : a.eval xo = .int kq x) (hw : (Lit.int kq x).wf = true)
    (hK : wpList P ops Q rest (a.put o.dst (.tuple #[.int eq 0, .bool false])) w) : wpList P ops Q (o :: rest) a w :=
  wp_lookN M h hg mo xo hop hm hx hw (by rw [hmx]; exact hK)
/-- 'm[k] = v'. -/
theorem wp_putN (M : MI P t k e kq eq) (h : MpN P k e kq eq w b c m) (hc : c < 1000000) (hg : o.guard = none) (mo xo vo : Operand) (hop : o.op = Op.mapUpdate t mo xo vo) (hm : a.eval mo = .map (some b)) {x y : Int} (hx : a.eval xo = .int kq x) (hv : a.eval vo = .int eq y) (hw : (Lit.int kq x).wf = true) (hwy : (Lit.int eq y).wf = true)
    (hK : ∀ w', MpN P k e kq eq w' b (if (m x).isSome then c else c + 1) (updI m x (some y)) → Fr (fun i => i = b) w w' → wpList P ops Q rest (a.put o.dst undef) w') : wpList P ops Q (o :: rest) a w := by
  obtain ⟨D, h1, h2, h3⟩ := h
  refine wpList_mapUpdate_in w hg mo xo vo t hop k e (int_keyed M.uk) M.ut (plainElem P e) b c D hm h1 (by unfold maxLen; omega) _ _ _ hx hv (keyOf_int_mk M.uk hw) _ _ (plainElem_int M.ue hwy) (fun w' h4 h5 => ?_)
  exact hK w' (MpN.put_of M h4 (h1.tidy (int_keyed M.uk)) h2 h3 hw) (turned_fr h5)
/-- 'delete(m, k)'. -/
theorem wp_delN (M : MI P t k e kq eq) (h : MpN P k e kq eq w b c m) (hg : o.guard = none) (mo xo : Operand) (hop : o.op = Op.call { callee := Callee.builtin Builtin.delete, args := #[mo, xo], argTypes := #[t, k] }) (hm : a.eval mo = .map (some b)) {x : Int} (hx : a.eval xo = .int kq x) (hw : (Lit.int kq x).wf = true)
    (hK : ∀ w', MpN P k e kq eq w' b (if (m x).isSome then c - 1 else c) (updI m x none) → Fr (fun i => i = b) w w' → wpList P ops Q rest (a.put o.dst (.tuple #[])) w') : wpList P ops Q (o :: rest) a w := by
  obtain ⟨D, h1, h2, h3⟩ := h
  refine wpList_delete_own w hg mo xo t k hop e (int_keyed M.uk) M.ut (plainElem P e) b c D hm h1 _ _ hx (keyOf_int_mk M.uk hw) (fun w' h4 h5 => ?_)
  exact hK w' (MpN.del_of h4 (h1.tidy (int_keyed M.uk)) h2 h3 hw) (turned_fr h5)
end
end Go.Proofs.YtmpjnphnljakiaaGreatDoor

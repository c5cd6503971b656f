/-
  A map in memory whose elements are numbers, as a function; whatever its keys are; its look-up, store, delete at the operation. No program in sight.
-/
import Derived.Test.YtmpjnphnljakiaaGreatDoorK02
import Derived.Maps.OwnSet
import Derived.Maps.OwnOps
import Derived.WalkArith
namespace Go.Proofs.YtmpjnphnljakiaaGreatDoor
open Go.RowKit Go.Maps
set_option linter.unusedVariables false

section
variable {K : Type}
/-- A function turned at one place. -/
def updK [DecidableEq K] {β : Type} (m : K → β) (x : K) (y : β) : K → β := fun z => if z = x then y else m z
theorem updK_same [DecidableEq K] {β : Type} (m : K → β) (x : K) (y : β) : updK m x y x = y := by simp [updK]
theorem updK_other [DecidableEq K] {β : Type} (m : K → β) {x z : K} (y : β) (h : ¬ z = x) : updK m x y z = m z := by simp [updK, h]
/-- What the table says of a map's type, and how keys are told: okK: which are keys, kv: as values, kl: as they read. -/
structure MK (P : Program) (t k e : TypeId) (eq : IntKind) (okK : K → Prop) (kv : K → Value) (kl : K → Lit) : Prop where
  ut : P.underlying t = some (.map k e)
  ue : P.underlying e = some (.int eq)
  z : ∀ w : World, (zeroValue e).run P w = .ok (.int eq 0) w
  kd : Keyed P k
  ky : ∀ x, okK x → keyOf P k (kv x) = some (kl x)
  inj : ∀ x y, okK x → okK y → kl x = kl y → x = y
  lit : ∀ x, WideAt.IsKeyLit (kl x)
def SeesK (eq : IntKind) (okK : K → Prop) (kl : K → Lit) (D : DataW Unit) (m : K → Option Int) : Prop := ∀ x, okK x → (m x = none → Maps.has D (kl x) = false) ∧ ∀ y, m x = some y → Maps.has D (kl x) = true ∧ D.atKey (kl x) (.lit (.int eq 0)) = .lit (.int eq y)
/-- Block b is a map of c entries, m. -/
def MpK (P : Program) (k e : TypeId) (eq : IntKind) (okK : K → Prop) (kl : K → Lit) (w : World) (b c : Nat) (m : K → Option Int) : Prop :=
  ∃ D : DataW Unit, w.ownsMap P k (plainElem P e) b c D ∧ Maps.size D = c ∧ SeesK eq okK kl D m

variable {P : Program} {t k e : TypeId} {eq : IntKind} {okK : K → Prop} {kv : K → Value} {kl : K → Lit} {w w' : World} {b c : Nat} {m : K → Option Int}
theorem owns_tightK {R : Value → Option (DataW Unit × List MemPlace)} {n : Nat} {D : DataW Unit} (h : w.ownsMap P k R b n D) : w.ownsMap P k R b (Maps.size D) D := by
  obtain ⟨es, clock, hb, F, hs, rfl⟩ := h
  exact ⟨es, clock, hb, F, by rw [Maps.size_eq, length_read]; exact Nat.le_refl _, rfl⟩
theorem MpK.lt (h : MpK P k e eq okK kl w b c m) : b < w.heap.size := by obtain ⟨D, h, _⟩ := h; exact h.lt
theorem MpK.fr (h : MpK P k e eq okK kl w b c m) {G : Nat → Prop} (f : Fr G w w') (hG : ¬ G b) : MpK P k e eq okK kl w' b c m := by
  have hl := h.lt
  obtain ⟨D, ⟨es, clock, hb, r⟩, r2⟩ := h
  exact ⟨D, ⟨es, clock, by rw [f.block b hl hG]; exact hb, r⟩, r2⟩
theorem MpK.made (P : Program) (k e : TypeId) (eq : IntKind) (okK : K → Prop) (kl : K → Lit) (w : World) : MpK P k e eq okK kl (w.alloc (.map #[] 0)) w.heap.size 0 (fun _ => none) :=
  ⟨.map [], World.ownsMap_made w P k _, rfl, fun x _ => ⟨fun _ => rfl, fun y q => (by cases q)⟩⟩
theorem turned_frK (h : w.mapTurned w' b) : Fr (fun i => i = b) w w' := (Fr.refl _ w).grown h.grown (fun i q => .inl (by cases q; rfl))

theorem MpK.put_of [DecidableEq K] {D : DataW Unit} (M : MK P t k e eq okK kv kl) {n : Nat} {x : K} {y : Int} (h : w'.ownsMap P k (plainElem P e) b n (D.put (kl x) (.lit (.int eq y)))) (ht : Tidy D) (hs : Maps.size D = c) (hv : SeesK eq okK kl D m) (hx : okK x) :
    MpK P k e eq okK kl w' b (if (m x).isSome then c else c + 1) (updK m x (some y)) := by
  have hsz := size_put (k := kl x) ht (.lit (.int eq y))
  have hh : Maps.has D (kl x) = (m x).isSome := by
    cases em : m x with
    | none => exact (hv x hx).1 em
    | some z => exact ((hv x hx).2 z em).1
  rw [hs, hh] at hsz
  refine ⟨_, by rw [← hsz]; exact owns_tightK h, hsz, fun z hz => ?_⟩
  by_cases e1 : z = x
  · subst e1
    rw [updK_same]
    exact ⟨fun q => (by cases q), fun y' q => by cases q; exact ⟨has_put_same ht.isMap (M.lit _) _, atKey_put_same ht.isMap (M.lit _) _ _⟩⟩
  · rw [updK_other _ _ e1]
    have ne : kl z ≠ kl x := fun q => e1 (M.inj _ _ hz hx q)
    rw [has_put_other ne, atKey_put_other ne]
    exact hv z hz
theorem MpK.del_of [DecidableEq K] (M : MK P t k e eq okK kv kl) {D : DataW Unit} {n : Nat} {x : K} (h : w'.ownsMap P k (plainElem P e) b n (D.del (kl x))) (ht : Tidy D) (hs : Maps.size D = c) (hv : SeesK eq okK kl D m) (hx : okK x) :
    MpK P k e eq okK kl w' b (if (m x).isSome then c - 1 else c) (updK m x none) := by
  have hsz := size_del (k := kl x) ht
  have hh : Maps.has D (kl x) = (m x).isSome := by
    cases em : m x with
    | none => exact (hv x hx).1 em
    | some z => exact ((hv x hx).2 z em).1
  rw [hs, hh] at hsz
  have hsz' : Maps.size (D.del (kl x)) = if (m x).isSome then c - 1 else c := by
    split at hsz
    · rename_i q; rw [if_pos q]; omega
    · rename_i q; rw [if_neg q]; omega
  refine ⟨_, by rw [← hsz']; exact owns_tightK h, hsz', fun z hz => ?_⟩
  by_cases e1 : z = x
  · subst e1
    rw [updK_same]
    exact ⟨fun _ => has_del_same, fun y' q => (by cases q)⟩
  · rw [updK_other _ _ e1]
    have ne : kl z ≠ kl x := fun q => e1 (M.inj _ _ hz hx q)
    rw [has_del_other ne, atKey_del_other ne]
    exact hv z hz

/-- The look-up as an equation. -/
theorem MpK.look_run (M : MK P t k e eq okK kv kl) (h : MpK P k e eq okK kl w b c m) {x : K} (hw : okK x) : (Instr.lookup t (.map (some b)) (kv x) false).run P w = .ok (.int eq ((m x).getD 0)) w := by
  obtain ⟨D, h1, h2, h3⟩ := h
  obtain ⟨cc, hrun, hat, _⟩ := h1.lookup_int M.kd M.ut M.ue (M.z w) (M.ky _ hw)
  have : cc = (m x).getD 0 := by
    cases em : m x with
    | none =>
      rw [atKey_of_not_has ((h3 x hw).1 em)] at hat
      simpa using hat.symm
    | some z =>
      rw [((h3 x hw).2 z em).2] at hat
      simpa using hat.symm
  rw [hrun, this]
variable {ops : Array Oper} {rest : List Oper} {o : Oper} {a : Act} {Q : Exit → Act → World → Prop}
/-- 'v, ok := m[k]'. -/
theorem wp_lookK (M : MK P t k e eq okK kv kl) (h : MpK P k e eq okK kl w b c m) (hg : o.guard = none) (mo xo : Operand) (hop : o.op = Op.lookup t mo xo true) (hm : a.eval mo = .map (some b)) {x : K} (hx : a.eval xo = kv x) (hw : okK x)
    (hK : wpList P ops Q rest (a.put o.dst (.tuple #[.int eq ((m x).getD 0), .bool (m x).isSome])) w) : wpList P ops Q (o :: rest) a w := by
  obtain ⟨D, h1, h2, h3⟩ := h
  refine wpList_lookup_own_ok_int w hg mo xo t hop k e eq M.kd M.ut M.ue (M.z w) b c D hm h1 _ _ hx (M.ky _ hw) (fun cc hat hwc => ?_)
  have : (Maps.has D (kl x)) = (m x).isSome ∧ cc = (m x).getD 0 := by
    cases em : m x with
    | none =>
      have hh := (h3 x hw).1 em
      refine ⟨hh, ?_⟩
      rw [atKey_of_not_has hh] at hat
      simpa using hat.symm
    | some z =>
      obtain ⟨q1, q2⟩ := (h3 x hw).2 z em
      refine ⟨q1, ?_⟩
      rw [q2] at hat
      simpa using hat.symm
  rw [this.1, this.2]
  exact hK
theorem wp_lookK_some (M : MK P t k e eq okK kv kl) (h : MpK P k e eq okK kl w b c m) {x : K} {y : Int} (hmx : m x = some y) (hg : o.guard = none) (mo xo : Operand) (hop : o.op = Op.lookup t mo xo true) (hm : a.eval mo = .map (some b)) (hx : a.eval xo = kv x) (hw : okK x)
    (hK : wpList P ops Q rest (a.put o.dst (.tuple #[.int eq y, .bool true])) w) : wpList P ops Q (o :: rest) a w :=
  wp_lookK M h hg mo xo hop hm hx hw (by rw [hmx]; exact hK)
theorem wp_lookK_none (M : MK P t k e eq okK kv kl) (h : MpK P k e eq okK kl w b c m) {x : K} (hmx : m x = none) (hg : o.guard = none) (mo xo : Operand) (hop : o.op = Op.lookup t mo xo true) (hm : a.eval mo = .map (some b)) (hx : a.eval xo = kv x) (hw : okK x)
    (hK : wpList P ops Q rest (a.put o.dst (.tuple #[.int eq 0, .bool false])) w) : wpList P ops Q (o :: rest) a w :=
  wp_lookK M h hg mo xo hop hm hx hw (by rw [hmx]; exact hK)
/-- 'm[k]'. -/
theorem wp_atK (M : MK P t k e eq okK kv kl) (h : MpK P k e eq okK kl w b c m) {x : K} (hg : o.guard = none) (mo xo : Operand) (hop : o.op = Op.lookup t mo xo false) (hm : a.eval mo = .map (some b)) (hx : a.eval xo = kv x) (hw : okK x) {v : Int} (hv : (m x).getD 0 = v)
    (hK : wpList P ops Q rest (a.put o.dst (.int eq v)) w) : wpList P ops Q (o :: rest) a w := by
  obtain ⟨D, h1, h2, h3⟩ := h
  subst hv
  refine wpList_lookup_own_int w hg mo xo t hop k e eq M.kd M.ut M.ue (M.z w) b c D hm h1 _ _ hx (M.ky _ hw) (fun cc hat hwc => ?_)
  have : cc = (m x).getD 0 := by
    cases em : m x with
    | none =>
      rw [atKey_of_not_has ((h3 x hw).1 em)] at hat
      simpa using hat.symm
    | some z =>
      rw [((h3 x hw).2 z em).2] at hat
      simpa using hat.symm
  rw [this]
  exact hK
/-- 'm[k] = v'. -/
theorem wp_putK [DecidableEq K] (M : MK P t k e eq okK kv kl) (h : MpK P k e eq okK kl w b c m) (hc : c < 1000000) (hg : o.guard = none) (mo xo vo : Operand) (hop : o.op = Op.mapUpdate t mo xo vo) (hm : a.eval mo = .map (some b)) {x : K} {y : Int} (hx : a.eval xo = kv x) (hv : a.eval vo = .int eq y) (hw : okK x) (hwy : (Lit.int eq y).wf = true)
    (hK : ∀ w', MpK P k e eq okK kl w' b (if (m x).isSome then c else c + 1) (updK m x (some y)) → Fr (fun i => i = b) w w' → wpList P ops Q rest (a.put o.dst undef) w') : wpList P ops Q (o :: rest) a w := by
  obtain ⟨D, h1, h2, h3⟩ := h
  refine wpList_mapUpdate_in w hg mo xo vo t hop k e M.kd M.ut (plainElem P e) b c D hm h1 (by unfold maxLen; omega) _ _ _ hx hv (M.ky _ hw) _ _ (plainElem_int M.ue hwy) (fun w' h4 h5 => ?_)
  exact hK w' (MpK.put_of M h4 (h1.tidy M.kd) h2 h3 hw) (turned_frK h5)
/-- 'delete(m, k)'. -/
theorem wp_delK [DecidableEq K] (M : MK P t k e eq okK kv kl) (h : MpK P k e eq okK kl w b c m) (hg : o.guard = none) (mo xo : Operand) (hop : o.op = Op.call { callee := Callee.builtin Builtin.delete, args := #[mo, xo], argTypes := #[t, k] }) (hm : a.eval mo = .map (some b)) {x : K} (hx : a.eval xo = kv x) (hw : okK x)
    (hK : ∀ w', MpK P k e eq okK kl w' b (if (m x).isSome then c - 1 else c) (updK m x none) → Fr (fun i => i = b) w w' → wpList P ops Q rest (a.put o.dst (.tuple #[])) w') : wpList P ops Q (o :: rest) a w := by
  obtain ⟨D, h1, h2, h3⟩ := h
  refine wpList_delete_own w hg mo xo t k hop e M.kd M.ut (plainElem P e) b c D hm h1 _ _ hx (M.ky _ hw) (fun w' h4 h5 => ?_)
  exact hK w' (MpK.del_of M h4 (h1.tidy M.kd) h2 h3 hw) (turned_frK h5)
end
end Go.Proofs.YtmpjnphnljakiaaGreatDoor

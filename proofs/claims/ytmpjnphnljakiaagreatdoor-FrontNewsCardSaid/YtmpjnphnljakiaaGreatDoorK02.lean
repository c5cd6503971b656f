/-
  What a slice value holds, as cells; append onto a slice that the call owns, from whatever slice: as a step of a walk, and inside a region that draws its order. No program in sight.
-/
import Derived.Test.YtmpjnphnljakiaaGreatDoorK01
import Derived.Deep.DeepMust
import Derived.Maps.AppendAt
namespace Go.Proofs.YtmpjnphnljakiaaGreatDoor
open Go.RowKit
set_option linter.unusedVariables false

/-- The slice v has m elements, of size cells each: news. -/
def SlC (w : World) (size : Nat) (v : Value) (m : Nat) (news : List Value) : Prop :=
  ∃ a c, v = .slice a m c ∧ news.length = m * size ∧ (∀ u ∈ news, u.oneCell' = true) ∧ m ≤ c ∧ c ≤ maxLen ∧
    ((a = none ∧ c = 0) ∨ ∃ b off, a = some ⟨b, off, none⟩ ∧ b < w.heap.size ∧ ∀ (j : Nat) (u : Value), news[j]? = some u → w.cell? ⟨b, off + j, none⟩ = some u)

theorem SlC.fr {w w' : World} {size m : Nat} {v : Value} {news : List Value} (h : SlC w size v m news) {G : Nat → Prop} (f : Fr G w w') (hG : ∀ b, v.ownBlock = some b → ¬ G b) : SlC w' size v m news := by
  obtain ⟨a, c, rfl, h1, h2, h3, h4, h5⟩ := h
  refine ⟨a, c, rfl, h1, h2, h3, h4, h5.imp id ?_⟩
  rintro ⟨b, off, rfl, hb, hc⟩
  exact ⟨b, off, rfl, Nat.lt_of_lt_of_le hb f.size, fun j u hj => by rw [f.cell (p := ⟨b, off + j, none⟩) hb (hG b rfl)]; exact hc j u hj⟩
theorem SlC.keep {w w' : World} {size m : Nat} {v : Value} {news : List Value} (h : SlC w size v m news) (f : Fr NoF w w') : SlC w' size v m news := h.fr f (fun _ _ q => q)
theorem SlC.nil (w : World) (size : Nat) : SlC w size (.slice none 0 0) 0 [] := ⟨none, 0, rfl, by simp, by simp, by omega, by unfold maxLen; omega, .inl ⟨rfl, rfl⟩⟩
theorem SlC.ofOwn {w : World} {base e size : Nat} {v : Value} {n : Nat} {xs : List Value} (h : w.ownsRow base e size v n xs) (h1 : ∀ u ∈ xs, u.oneCell' = true) : SlC w size v n xs := by
  obtain ⟨hl, h2⟩ := h
  rcases h2 with ⟨rfl, h2⟩ | ⟨g, cap, cur, rfl, hg, hh, h3, h4, h5, h6⟩
  · subst h2
    have : xs = [] := List.eq_nil_of_length_eq_zero (by simpa using hl)
    subst this
    exact SlC.nil w size
  · refine ⟨_, cap, rfl, hl, h1, h3, h4, .inr ⟨g, 0, rfl, ?_, ?_⟩⟩
    · rcases Nat.lt_or_ge g w.heap.size with h' | h'
      · exact h'
      · simp [Array.getElem?_eq_none h'] at hh
    · intro j u hj
      have hjl : j < xs.length := (List.getElem?_eq_some_iff.1 hj).1
      rw [← h6, List.getElem?_take, if_pos (by omega)] at hj
      simpa [World.cell?, hh] using hj
theorem ownBlock_own {w : World} {base e size : Nat} {v : Value} {n : Nat} {xs : List Value} (h : w.ownsRow base e size v n xs) : ∀ b, v.ownBlock = some b → base ≤ b := by
  obtain ⟨_, h2⟩ := h
  rcases h2 with ⟨rfl, _⟩ | ⟨g, cap, cur, rfl, hg, _⟩
  · intro b hb; cases hb
  · intro b hb; simp [Value.ownBlock] at hb; omega
/-- A slice's own block is there. -/
theorem SlC.lt {w : World} {size m : Nat} {v : Value} {news : List Value} (h : SlC w size v m news) : ∀ b, v.ownBlock = some b → b < w.heap.size := by
  obtain ⟨a, c, rfl, _, _, _, _, h5⟩ := h
  rcases h5 with ⟨rfl, _⟩ | ⟨b, off, rfl, hb, _⟩
  · intro b hb; cases hb
  · intro k hk; simp [Value.ownBlock] at hk; omega
/-- A part of a slice: from lo to hi. -/
theorem SlC.cut {w : World} {size m : Nat} {v : Value} {news : List Value} (h : SlC w size v m news) {lo hi : Nat} (h1 : lo ≤ hi) (h2 : hi ≤ m) {a : Option Addr} {c : Nat} (hv : v = .slice a m c) (hlc : lo < c) :
    ∃ b off, a = some ⟨b, off, none⟩ ∧ SlC w size (.slice (some ⟨b, off + lo * size, none⟩) (hi - lo) (c - lo)) (hi - lo) ((news.drop (lo * size)).take ((hi - lo) * size)) := by
  obtain ⟨a', c', rfl, l1, l2, l3, l4, l5⟩ := h
  simp only [Value.slice.injEq] at hv
  obtain ⟨rfl, _, rfl⟩ := hv
  rcases l5 with ⟨rfl, rfl⟩ | ⟨b, off, rfl, hb, hc⟩
  · omega
  · refine ⟨b, off, rfl, _, _, rfl, ?_, fun u hu => l2 u (List.mem_of_mem_drop (List.mem_of_mem_take hu)), by omega, by omega, .inr ⟨b, _, rfl, hb, fun j u hj => ?_⟩⟩
    · have q1 : (hi - lo) * size = hi * size - lo * size := Nat.sub_mul ..
      have q2 : lo * size ≤ hi * size := Nat.mul_le_mul_right _ h1
      have q3 : hi * size ≤ m * size := Nat.mul_le_mul_right _ h2
      rw [List.length_take, List.length_drop, l1]; omega
    · rw [List.getElem?_take] at hj
      split at hj
      · rw [List.getElem?_drop] at hj
        rw [Nat.add_assoc]
        exact hc _ u hj
      · cases hj

/-- What the table says of a slice type and its elements. -/
structure EI (P : Program) (t e : TypeId) (size bytes : Nat) : Prop where
  ex : P.underlying t = some (.slice e) ∧ ∃ i z, P.info? e = some i ∧ i.zero = some z ∧ i.size = size ∧ i.bytes = bytes ∧ z.cells.size = size ∧ 0 < size

theorem run_app {P : Program} {t e size bytes : Nat} (hE : EI P t e size bytes) {w0 w : World} (hf : Fr NoF w0 w) (ty : TypeId) {v : Value} {n : Nat} {xs : List Value} (hown : w.ownsRow w0.heap.size e size v n xs)
    {sv : Value} {m : Nat} {news : List Value} (hsrc : SlC w size sv m news) (h63 : n + m ≤ maxLen) (hb : (n + m) * bytes ≤ 140737488355328) :
    ∃ v' w', (Builtin.append_ #[t, t] ty #[v, sv]).run P w = .ok v' w' ∧ w'.ownsRow w0.heap.size e size v' (n + m) (xs ++ news) ∧ Fr NoF w0 w' ∧ Fr (fun b => v.ownBlock = some b) w w' := by
  obtain ⟨ht, i, z, hi, hz, hsize, hby, hzs, hsz⟩ := hE.ex
  have hob := ownBlock_own hown
  obtain ⟨a, c, rfl, l1, l2, l3, l4, l5⟩ := hsrc
  rcases l5 with ⟨rfl, rfl⟩ | ⟨b, off, rfl, hb', hc⟩
  · obtain rfl : m = 0 := by omega
    have : news = [] := List.eq_nil_of_length_eq_zero (by simpa using l1)
    subst this
    refine ⟨v, w, run_append_owned_none (P := P) w w0.heap.size t ty e i size ht hi v n xs hown, by simpa using hown, hf, Fr.refl _ _⟩
  · obtain ⟨v', w', hr, h2, h3, _⟩ := run_append_own (P := P) w w0.heap.size t ty e i z size bytes ht hi hz hsize hby hzs hsz v n xs hown ⟨b, off, none⟩ m c news l1
      (fun j u hj => by
        have : ({ block := b, off := off, spot := none } : Addr).add j = ⟨b, off + j, none⟩ := by
          cases j with
          | zero => rfl
          | succ j => simp [Addr.add]
        rw [this]; exact hc j u hj) l2 h63 hb hf.size
    exact ⟨v', w', hr, h2, hf.grown h3 (fun k hk => .inr (hob k hk)), (Fr.refl _ w).grown h3 (fun k hk => .inl hk)⟩

section
variable {P : Program} {t e size bytes : Nat} {w0 w : World} {ops : Array Oper} {o : Oper} {a : Act} {Q : Exit → Act → World → Prop}
theorem wp_app {K : Act → World → Prop} (hE : EI P t e size bytes) (s x : Operand) (ho : o.op = .call { callee := .builtin .append, args := #[s, x], argTypes := #[t, t] }) {v sv : Value} (hs : a.eval s = v) (hx : a.eval x = sv) (hf : Fr NoF w0 w)
    {n : Nat} {xs : List Value} (hown : w.ownsRow w0.heap.size e size v n xs) {m : Nat} {news : List Value} (hsrc : SlC w size sv m news)
    (h63 : n + m ≤ maxLen) (hb : (n + m) * bytes ≤ 140737488355328)
    (h : ∀ v' w', w'.ownsRow w0.heap.size e size v' (n + m) (xs ++ news) → Fr NoF w0 w' → Fr (fun b => v.ownBlock = some b) w w' → K (a.put o.dst v') w') : o.wp P a w K Q := by
  obtain ⟨v', w', hr, h2, h3, h4⟩ := run_app hE hf o.type hown hsrc h63 hb
  unfold Oper.wp execOp
  simp only [ho, resolve, invoke, builtin, Sem.run_bind, Sem.run_pure, Result.andThen_ok, List.map_toArray, List.map_cons, List.map_nil, hs, hx, hr]
  exact h v' w' h2 h3 h4
/-- 'append(s, x...)' in a walk. -/
theorem appL {rest : List Oper} (hE : EI P t e size bytes) (hgd : o.guard = none) (s x : Operand) (ho : o.op = .call { callee := .builtin .append, args := #[s, x], argTypes := #[t, t] }) {v sv : Value} (hs : a.eval s = v) (hx : a.eval x = sv) (hf : Fr NoF w0 w)
    {n : Nat} {xs : List Value} (hown : w.ownsRow w0.heap.size e size v n xs) {m : Nat} {news : List Value} (hsrc : SlC w size sv m news)
    (h63 : n + m ≤ maxLen) (hb : (n + m) * bytes ≤ 140737488355328)
    (h : ∀ v' w', w'.ownsRow w0.heap.size e size v' (n + m) (xs ++ news) → Fr NoF w0 w' → Fr (fun b => v.ownBlock = some b) w w' → wpList P ops Q rest (a.put o.dst v') w') : wpList P ops Q (o :: rest) a w :=
  wpList_plain hgd fun _ hK => wp_app hE s x ho hs hx hf hown hsrc h63 hb fun v' w' h2 h3 h4 => hK _ _ (h v' w' h2 h3 h4)
/-- .. inside a region that draws its order. -/
theorem appS {K : Act → World → Prop} {E : Prop} (hE : EI P t e size bytes) (hgd : o.guard = none) (s x : Operand) (ho : o.op = .call { callee := .builtin .append, args := #[s, x], argTypes := #[t, t] }) {v sv : Value} (hs : a.eval s = v) (hx : a.eval x = sv) (hf : Fr NoF w0 w)
    {n : Nat} {xs : List Value} (hown : w.ownsRow w0.heap.size e size v n xs) {m : Nat} {news : List Value} (hsrc : SlC w size sv m news)
    (h63 : n + m ≤ maxLen) (hb : (n + m) * bytes ≤ 140737488355328)
    (h : ∀ v' w', w'.ownsRow w0.heap.size e size v' (n + m) (xs ++ news) → Fr NoF w0 w' → Fr (fun b => v.ownBlock = some b) w w' → K (a.put o.dst v') w') :
    if Region.wanted o (yielded ops a.tmps) = true then Oper.wp P o a w K Q else E := by
  have hw : Region.wanted o (yielded ops a.tmps) = true := by simp [Region.wanted, hgd]
  rw [if_pos hw]
  exact wp_app hE s x ho hs hx hf hown hsrc h63 hb h
end

/-- A block that the call has just laid: a slice over the whole of it owns its cells. -/
theorem own_new {w w0 : World} (hf : w0.heap.size ≤ w.heap.size) (cs : Array Value) (e size n g : Nat) (hg : g = w.heap.size) (hs : cs.size = n * size) (hm : n ≤ maxLen) : (w.alloc (.cells cs e)).ownsRow w0.heap.size e size (.slice (some ⟨g, 0, none⟩) n n) n cs.toList := by
  subst hg
  exact ⟨by simp [hs], .inr ⟨w.heap.size, n, cs, rfl, hf, heap_alloc_new _ _ _ rfl, Nat.le_refl _, hm, hs, by rw [List.take_of_length_le (by simp [hs])]⟩⟩
/-- What is owned stays owned behind whatever changes nothing of the call's own. -/
theorem own_keep {w w' : World} {base e size : Nat} {v : Value} {n : Nat} {xs : List Value} (h : w.ownsRow base e size v n xs) {G : Nat → Prop} (f : Fr G w w') (hG : ∀ b, v.ownBlock = some b → ¬ G b) : w'.ownsRow base e size v n xs := by
  obtain ⟨h1, h2⟩ := h
  refine ⟨h1, h2.imp id ?_⟩
  rintro ⟨g, cap, cur, rfl, hg, hh, r⟩
  have hl : g < w.heap.size := by
    rcases Nat.lt_or_ge g w.heap.size with h' | h'
    · exact h'
    · simp [Array.getElem?_eq_none h'] at hh
  exact ⟨g, cap, cur, rfl, hg, by rw [f.block g hl (hG g rfl)]; exact hh, r⟩
theorem heap_drew (w : World) : w.drew.heap = w.heap := rfl
theorem heap_step (w : World) (o o' : Obj) (k : Nat) (h : w.heap[k]? = some o') : (w.alloc o).heap[k]? = some o' := by
  rw [Below.heap_alloc w o k ?_]; exact h
  rcases Nat.lt_or_ge k w.heap.size with h' | h'
  · exact h'
  · simp [Array.getElem?_eq_none h'] at h
/-- A slice over the whole of a block of the call's own. -/
theorem own_heap {w w0 : World} {g n e size : Nat} {cs : Array Value} (hh : w.heap[g]? = some (.cells cs e (0, 0))) (hb : w0.heap.size ≤ g) (hs : cs.size = n * size) (hm : n ≤ maxLen) :
    w.ownsRow w0.heap.size e size (.slice (some ⟨g, 0, none⟩) n n) n cs.toList :=
  ⟨by simp [hs], .inr ⟨g, n, cs, rfl, hb, hh, Nat.le_refl _, hm, hs, by rw [List.take_of_length_le (by simp [hs])]⟩⟩
theorem sl_heap {w : World} {g n e size : Nat} {cs : Array Value} (hh : w.heap[g]? = some (.cells cs e (0, 0))) (hs : cs.size = n * size) (hm : n ≤ maxLen) (h1 : ∀ u ∈ cs.toList, u.oneCell' = true) :
    SlC w size (.slice (some ⟨g, 0, none⟩) n n) n cs.toList := by
  have hl : g < w.heap.size := by
    rcases Nat.lt_or_ge g w.heap.size with h' | h'
    · exact h'
    · simp [Array.getElem?_eq_none h'] at hh
  refine ⟨_, n, rfl, by simp [hs], h1, Nat.le_refl _, hm, .inr ⟨g, 0, rfl, hl, fun j u hj => ?_⟩⟩
  simpa [World.cell?, hh] using hj
theorem Fr.heap {F : Nat → Prop} {w w' : World} (f : Fr F w w') {k : Nat} {o : Obj} (h : w.heap[k]? = some o) (hF : ¬ F k) : w'.heap[k]? = some o := by
  have hl : k < w.heap.size := by
    rcases Nat.lt_or_ge k w.heap.size with h' | h'
    · exact h'
    · simp [Array.getElem?_eq_none h'] at h
  rw [f.block k hl hF]; exact h
/-- append, told of a base alone: whatever the call has changed of elder blocks. -/
theorem run_appB {P : Program} {t e size bytes : Nat} (hE : EI P t e size bytes) {base : Nat} {w : World} (hbase : base ≤ w.heap.size) (ty : TypeId) {v : Value} {n : Nat} {xs : List Value} (hown : w.ownsRow base e size v n xs)
    {sv : Value} {m : Nat} {news : List Value} (hsrc : SlC w size sv m news) (h63 : n + m ≤ maxLen) (hb : (n + m) * bytes ≤ 140737488355328) :
    ∃ v' w', (Builtin.append_ #[t, t] ty #[v, sv]).run P w = .ok v' w' ∧ w'.ownsRow base e size v' (n + m) (xs ++ news) ∧ Fr (fun b => v.ownBlock = some b) w w' ∧ ∀ b, v'.ownBlock = some b → v.ownBlock = some b ∨ w.heap.size ≤ b := by
  obtain ⟨ht, i, z, hi, hz, hsize, hby, hzs, hsz⟩ := hE.ex
  obtain ⟨a, c, rfl, l1, l2, l3, l4, l5⟩ := hsrc
  rcases l5 with ⟨rfl, rfl⟩ | ⟨b, off, rfl, hb', hc⟩
  · obtain rfl : m = 0 := by omega
    have : news = [] := List.eq_nil_of_length_eq_zero (by simpa using l1)
    subst this
    exact ⟨v, w, run_append_owned_none (P := P) w base t ty e i size ht hi v n xs hown, by simpa using hown, Fr.refl _ _, fun b hb => .inl hb⟩
  · obtain ⟨v', w', hr, h2, h3, _, h4⟩ := run_append_own_at (P := P) w base t ty e i z size bytes ht hi hz hsize hby hzs hsz v n xs hown ⟨b, off, none⟩ m c news l1
      (fun j u hj => by
        have : ({ block := b, off := off, spot := none } : Addr).add j = ⟨b, off + j, none⟩ := by
          cases j with
          | zero => rfl
          | succ j => simp [Addr.add]
        rw [this]; exact hc j u hj) l2 h63 hb hbase
    refine ⟨v', w', hr, h2, (Fr.refl _ w).grown h3 (fun k hk => .inl hk), fun b hb => ?_⟩
    rcases h4 with h4 | h4
    · exact .inl (h4 ▸ hb)
    · rw [h4] at hb; right; have := Option.some.inj hb; omega

section
variable {P : Program} {t e size bytes : Nat} {base : Nat} {w : World} {ops : Array Oper} {o : Oper} {a : Act} {Q : Exit → Act → World → Prop}
theorem wp_appB {K : Act → World → Prop} (hE : EI P t e size bytes) (s x : Operand) (ho : o.op = .call { callee := .builtin .append, args := #[s, x], argTypes := #[t, t] }) {v sv : Value} (hs : a.eval s = v) (hx : a.eval x = sv) (hbase : base ≤ w.heap.size)
    {n : Nat} {xs : List Value} (hown : w.ownsRow base e size v n xs) {m : Nat} {news : List Value} (hsrc : SlC w size sv m news)
    (h63 : n + m ≤ maxLen) (hb : (n + m) * bytes ≤ 140737488355328)
    (h : ∀ v' w', w'.ownsRow base e size v' (n + m) (xs ++ news) → Fr (fun b => v.ownBlock = some b) w w' → (∀ b, v'.ownBlock = some b → v.ownBlock = some b ∨ w.heap.size ≤ b) → K (a.put o.dst v') w') : o.wp P a w K Q := by
  obtain ⟨v', w', hr, h2, h3, h4⟩ := run_appB hE hbase o.type hown hsrc h63 hb
  unfold Oper.wp execOp
  simp only [ho, resolve, invoke, builtin, Sem.run_bind, Sem.run_pure, Result.andThen_ok, List.map_toArray, List.map_cons, List.map_nil, hs, hx, hr]
  exact h v' w' h2 h3 h4
theorem appLB {rest : List Oper} (hE : EI P t e size bytes) (hgd : o.guard = none) (s x : Operand) (ho : o.op = .call { callee := .builtin .append, args := #[s, x], argTypes := #[t, t] }) {v sv : Value} (hs : a.eval s = v) (hx : a.eval x = sv) (hbase : base ≤ w.heap.size)
    {n : Nat} {xs : List Value} (hown : w.ownsRow base e size v n xs) {m : Nat} {news : List Value} (hsrc : SlC w size sv m news)
    (h63 : n + m ≤ maxLen) (hb : (n + m) * bytes ≤ 140737488355328)
    (h : ∀ v' w', w'.ownsRow base e size v' (n + m) (xs ++ news) → Fr (fun b => v.ownBlock = some b) w w' → (∀ b, v'.ownBlock = some b → v.ownBlock = some b ∨ w.heap.size ≤ b) → wpList P ops Q rest (a.put o.dst v') w') : wpList P ops Q (o :: rest) a w :=
  wpList_plain hgd fun _ hK => wp_appB hE s x ho hs hx hbase hown hsrc h63 hb fun v' w' h2 h3 h4 => hK _ _ (h v' w' h2 h3 h4)
theorem appSB {K : Act → World → Prop} {E : Prop} (hE : EI P t e size bytes) (hgd : o.guard = none) (s x : Operand) (ho : o.op = .call { callee := .builtin .append, args := #[s, x], argTypes := #[t, t] }) {v sv : Value} (hs : a.eval s = v) (hx : a.eval x = sv) (hbase : base ≤ w.heap.size)
    {n : Nat} {xs : List Value} (hown : w.ownsRow base e size v n xs) {m : Nat} {news : List Value} (hsrc : SlC w size sv m news)
    (h63 : n + m ≤ maxLen) (hb : (n + m) * bytes ≤ 140737488355328)
    (h : ∀ v' w', w'.ownsRow base e size v' (n + m) (xs ++ news) → Fr (fun b => v.ownBlock = some b) w w' → (∀ b, v'.ownBlock = some b → v.ownBlock = some b ∨ w.heap.size ≤ b) → K (a.put o.dst v') w') :
    if Region.wanted o (yielded ops a.tmps) = true then Oper.wp P o a w K Q else E := by
  have hw : Region.wanted o (yielded ops a.tmps) = true := by simp [Region.wanted, hgd]
  rw [if_pos hw]
  exact wp_appB hE s x ho hs hx hbase hown hsrc h63 hb h
end

/-- An element of a slice, and where it lies. -/
theorem SlC.at {w : World} {size m : Nat} {v : Value} {news : List Value} (h : SlC w size v m news) {k : Nat} (hk : k < m) (hs : 0 < size) :
    ∃ b off c, v = .slice (some ⟨b, off, none⟩) m c ∧ m ≤ c ∧ c ≤ maxLen ∧ b < w.heap.size ∧ ∀ (j : Nat) (u : Value), news[j]? = some u → w.cell? ⟨b, off + j, none⟩ = some u := by
  obtain ⟨a, c, rfl, l1, l2, l3, l4, l5⟩ := h
  rcases l5 with ⟨rfl, rfl⟩ | ⟨b, off, rfl, hb, hc⟩
  · omega
  · exact ⟨b, off, c, rfl, l3, l4, hb, hc⟩
theorem SlC.shape {w : World} {size m : Nat} {v : Value} {news : List Value} (h : SlC w size v m news) : ∃ a c, v = .slice a m c ∧ m ≤ c ∧ c ≤ maxLen := by
  obtain ⟨a, c, rfl, l1, l2, l3, l4, l5⟩ := h
  exact ⟨a, c, rfl, l3, l4⟩
theorem SlC.len {w : World} {size m : Nat} {v : Value} {news : List Value} (h : SlC w size v m news) : m ≤ maxLen := by
  obtain ⟨a, c, rfl, l1, l2, l3, l4, l5⟩ := h; omega
/-- A slice of numbers of kind k. -/
def SlK (k : IntKind) (w : World) (v : Value) (l : List Nat) : Prop := SlC w 1 v l.length (l.map fun (x : Nat) => Value.int k (x : Int))
theorem SlK.nil (k : IntKind) (w : World) : SlK k w (.slice none 0 0) [] := SlC.nil w 1
theorem SlK.fr {k : IntKind} {w w' : World} {v : Value} {l : List Nat} (h : SlK k w v l) {G : Nat → Prop} (f : Fr G w w') (hG : ∀ b, v.ownBlock = some b → ¬ G b) : SlK k w' v l := SlC.fr h f hG
theorem SlK.keep {k : IntKind} {w w' : World} {v : Value} {l : List Nat} (h : SlK k w v l) (f : Fr NoF w w') : SlK k w' v l := SlC.fr h f (fun _ _ q => q)
theorem SlK.at {k : IntKind} {w : World} {v : Value} {l : List Nat} (h : SlK k w v l) {i : Nat} (hi : i < l.length) :
    ∃ b off c, v = .slice (some ⟨b, off, none⟩) l.length c ∧ l.length ≤ c ∧ c ≤ maxLen ∧ b < w.heap.size ∧ w.cell? ⟨b, off + i, none⟩ = some (.int k (l[i] : Nat)) := by
  obtain ⟨b, off, c, e, h1, h2, h3, h4⟩ := SlC.at h hi (by omega)
  exact ⟨b, off, c, e, h1, h2, h3, h4 i _ (by simp [hi])⟩
theorem SlK.shape {k : IntKind} {w : World} {v : Value} {l : List Nat} (h : SlK k w v l) : ∃ a c, v = .slice a l.length c ∧ l.length ≤ c ∧ c ≤ maxLen := SlC.shape h
theorem SlK.lt {k : IntKind} {w : World} {v : Value} {l : List Nat} (h : SlK k w v l) : ∀ b, v.ownBlock = some b → b < w.heap.size := SlC.lt h
/-- .. that the call owns. -/
def OwK (k : IntKind) (base : Nat) (e : TypeId) (w : World) (v : Value) (l : List Nat) : Prop := w.ownsRow base e 1 v l.length (l.map fun (x : Nat) => Value.int k (x : Int))
theorem OwK.sl {k : IntKind} {base : Nat} {e : TypeId} {w : World} {v : Value} {l : List Nat} (h : OwK k base e w v l) : SlK k w v l :=
  SlC.ofOwn h (fun u hu => by obtain ⟨z, _, rfl⟩ := List.mem_map.1 hu; rfl)
theorem OwK.nil (k : IntKind) (base : Nat) (e : TypeId) (w : World) : OwK k base e w (.slice none 0 0) [] := World.ownsRow_nil _ _ _ _
theorem OwK.base {k : IntKind} {base : Nat} {e : TypeId} {w : World} {v : Value} {l : List Nat} (h : OwK k base e w v l) : ∀ b, v.ownBlock = some b → base ≤ b := ownBlock_own h
/-- Bools as cells. -/
def bF (ev : Nat → Bool) (i : Nat) : Value := .bool (ev i)
theorem bF_set (ev : Nat → Bool) (i : Nat) (v : Bool) : upd (bF ev) i (.bool v) = bF (upd ev i v) := by
  funext j
  by_cases e : j = i
  · subst e; simp [upd_same, bF]
  · rw [upd_other _ _ e]; simp [bF, upd_other _ _ e]
theorem made_at {z : Array Value} {N i : Nat} (hi : i < N) : (madeCells z N)[i]? = some z[i % z.size]! := by
  unfold madeCells
  rw [Array.getElem?_map, Array.getElem?_range, if_pos hi]; rfl
end Go.Proofs.YtmpjnphnljakiaaGreatDoor

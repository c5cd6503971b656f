/-
  Pages as a map, and how often each is pinned: what any pool shows of itself, whatever Replacer there is, as long as the disk doesn't fail. Plain facts, with no program in sight.
  What a pool shows, call by call: just what the map shows. Plain facts, with no program in sight.
  How often a pool reads and writes its disk, how many frames are dirty: plain facts, with no program in sight.
  A pool, whichever Replacer there is, that shows a map: each call, as the program does it, answers as the map, and leaves such a pool.
  A pool that shows a map: it stays where others write; where it lies.
-/
import Derived.Test.YtmpjnphnljakiaaGreatDoorK21
namespace Go.Proofs.YtmpjnphnljakiaaGreatDoor
open Go.RowKit Go.Maps
set_option linter.unusedVariables false
set_option linter.unusedSimpArgs false
set_option linter.unusedSectionVars false

structure AM where
  ids : List Nat
  val : Nat → Nat
  pin : Nat → Nat
  room : Nat
def AM.pinned (M : AM) : List Nat := M.ids.filter (fun x => decide (¬ M.pin x = 0))
def AM.full (n : Nat) (M : AM) : Bool := decide (n ≤ M.pinned.length)
noncomputable def AM.gap (M : AM) : Nat := gapOf (M.ids.map (fun x => (x, 0)))
def outI (l : List Nat) (x : Nat) : List Nat := match l.findIdx? (fun y => y == x) with | none => l | some k => l.take k ++ l.drop (k + 1)
noncomputable def AM.newPage (n : Nat) (M : AM) : (Nat × Nat) × AM :=
  if M.full n = true then ((0, 6), M) else if M.room ≤ M.ids.length then ((0, 2), M)
  else ((M.gap + 1, 0), { M with ids := M.ids.take M.gap ++ [M.gap + 1] ++ M.ids.drop M.gap, val := upd M.val (M.gap + 1) 0, pin := upd M.pin (M.gap + 1) 1 })
def AM.fetch (n : Nat) (M : AM) (id : Nat) : Nat × AM :=
  if id ∈ M.ids then (if M.pin id = 0 ∧ M.full n = true then (6, M) else (0, { M with pin := upd M.pin id (M.pin id + 1) })) else (3, M)
def AM.held (M : AM) (id : Nat) : Nat := if id ∈ M.ids then (if M.pin id = 0 then 5 else 0) else 3
def AM.unpin (M : AM) (id : Nat) : Nat × AM := if M.held id = 0 then (0, { M with pin := upd M.pin id (M.pin id - 1) }) else (M.held id, M)
def AM.read (M : AM) (id : Nat) : Nat × Nat := if M.held id = 0 then (M.val id, 0) else (0, M.held id)
def AM.write (M : AM) (id v : Nat) : Nat × AM := if M.held id = 0 then (0, { M with val := upd M.val id v }) else (M.held id, M)
def AM.flush (M : AM) (id : Nat) : Nat := if id ∈ M.ids then 0 else 3
def AM.delete (M : AM) (id : Nat) : Nat × AM :=
  if id ∈ M.ids then (if M.pin id = 0 then (0, { M with ids := outI M.ids id }) else (4, M)) else (3, M)

/-! ### The disk -/
theorem valP_nil (x : Nat) : valP [] x = 0 := rfl
theorem valP_cons (a : Nat × Nat) (l : List (Nat × Nat)) (x : Nat) : valP (a :: l) x = if a.1 = x then a.2 else valP l x := by
  unfold valP atP
  rw [List.findIdx?_cons]
  by_cases e : a.1 = x
  · simp [e]
  · have : (a.1 == x) = false := by simp [e]
    rw [this, if_neg e]
    simp only [Bool.false_eq_true, if_false]
    cases l.findIdx? (fun p => p.1 == x) with
    | none => rfl
    | some j => simp
theorem valP_mid (A B : List (Nat × Nat)) (p : Nat × Nat) {x : Nat} (h : ¬ x = p.1) : valP (A ++ p :: B) x = valP (A ++ B) x := by
  induction A with
  | nil => rw [List.nil_append, List.nil_append, valP_cons, if_neg (fun e => h e.symm)]
  | cons a A ih => rw [List.cons_append, List.cons_append, valP_cons, valP_cons, ih]
/-- It never fails. -/
structure Fine (D : RS) : Prop where
  st : D.stops = false
  nr : D.nr = []
  ns : D.ns = []
theorem has_mem (D : RS) (id : Nat) : D.has id = true ↔ id ∈ D.ids := D.has_iff id
theorem has_split {D : RS} {id : Nat} (h : id ∈ D.ids) : ∃ A v B, D.L = A ++ (id, v) :: B ∧ (∀ p ∈ A, ¬ p.1 = id) ∧ atP D.L id = some A.length ∧ valP D.L id = v := by
  rcases atP_of (l := D.L) (id := id) with ⟨h1, h2⟩ | q
  · obtain ⟨p, hp, e⟩ := List.mem_map.1 h
    exact (h2 p hp e).elim
  · exact q
theorem write_good {D : RS} {id : Nat} (F : Fine D) (h : id ∈ D.ids) (v : Nat) : (D.write id v).1 = 0 ∧ Fine (D.write id v).2 ∧ (D.write id v).2.ids = D.ids ∧ (D.write id v).2.room = D.room ∧ ∀ x, valP (D.write id v).2.L x = if x = id then v else valP D.L x := by
  obtain ⟨A, u, B, e1, e2, e3, e4⟩ := has_split h
  have hs : D.stopped = false := by unfold RS.stopped; rw [F.st]; rfl
  have hf : (failsP D.ns id).2 = false := by rw [F.ns]; rfl
  have hw : D.write id v = (0, { D with L := D.L.set A.length ((D.L.getD A.length (0, 0)).1, v), wr := D.wr + 1, left := D.left - 1 }) := by
    unfold RS.write
    rw [e3]
    simp only [hs, hf, Bool.false_eq_true, if_false]
  have hL : D.L.set A.length ((D.L.getD A.length (0, 0)).1, v) = A ++ (id, v) :: B := by
    rw [e1]
    have : (A ++ (id, u) :: B).getD A.length (0, 0) = (id, u) := by simp [List.getD]
    rw [this]
    simp
  refine ⟨by rw [hw], by rw [hw]; exact ⟨F.st, F.nr, F.ns⟩, (RS.write_ids D id v).1, (RS.write_ids D id v).2, fun x => ?_⟩
  rw [hw]
  show valP (D.L.set A.length ((D.L.getD A.length (0, 0)).1, v)) x = _
  rw [hL]
  by_cases c : x = id
  · subst c; rw [if_pos rfl, valP_split e2]
  · rw [if_neg c, e1]; exact valP_other c
theorem read_good {D : RS} {id : Nat} (F : Fine D) (h : id ∈ D.ids) : (D.read id).1 = (valP D.L id, 0) ∧ Fine (D.read id).2 ∧ (D.read id).2.ids = D.ids ∧ (D.read id).2.room = D.room ∧ (D.read id).2.L = D.L := by
  obtain ⟨A, u, B, e1, e2, e3, e4⟩ := has_split h
  have hs : D.stopped = false := by unfold RS.stopped; rw [F.st]; rfl
  have hf : (failsP D.nr id).2 = false := by rw [F.nr]; rfl
  have hw : D.read id = (((D.L.getD A.length (0, 0)).2, 0), { D with rd := D.rd + 1, left := D.left - 1 }) := by
    unfold RS.read
    rw [e3]
    simp only [hs, hf, Bool.false_eq_true, if_false]
  refine ⟨?_, by rw [hw]; exact ⟨F.st, F.nr, F.ns⟩, by rw [hw]; rfl, by rw [hw], by rw [hw]⟩
  rw [hw]
  show ((D.L.getD A.length (0, 0)).2, 0) = _
  rw [e4, e1]
  simp [List.getD]
theorem ins_good (D : RS) (k : Nat) : (D.ins k).ids = D.ids.take k ++ [k + 1] ++ D.ids.drop k ∧ ∀ x, ¬ x = k + 1 → valP (D.ins k).L x = valP D.L x := by
  constructor
  · unfold RS.ids RS.ins
    simp only [List.map_append, List.map_cons, List.map_nil, List.map_take, List.map_drop]
  · intro x hx
    unfold RS.ins
    dsimp only
    rw [List.append_assoc, List.singleton_append, valP_mid _ _ _ hx, List.take_append_drop]
theorem free_good {D : RS} {id : Nat} (h : id ∈ D.ids) : (D.free id).1 = 0 ∧ (D.free id).2.ids = outI D.ids id ∧ (D.free id).2.room = D.room ∧ (D.free id).2.stops = D.stops ∧ (D.free id).2.nr = D.nr ∧ (D.free id).2.ns = D.ns ∧ ∀ x, ¬ x = id → valP (D.free id).2.L x = valP D.L x := by
  obtain ⟨A, u, B, e1, e2, e3, e4⟩ := has_split h
  have hw : D.free id = (0, { D with L := D.L.take A.length ++ D.L.drop (A.length + 1) }) := by
    unfold RS.free
    rw [e3]
  have hL : D.L.take A.length ++ D.L.drop (A.length + 1) = A ++ B := by
    rw [e1]
    simp
  refine ⟨by rw [hw], ?_, by rw [hw], by rw [hw], by rw [hw], by rw [hw], fun x hx => ?_⟩
  · rw [hw]
    show ((D.L.take A.length ++ D.L.drop (A.length + 1)).map (·.1)) = _
    have : D.ids.findIdx? (fun y => y == id) = some A.length := by
      unfold RS.ids
      rw [List.findIdx?_map]
      exact e3
    unfold outI
    rw [this]
    unfold RS.ids
    simp only [List.map_append, List.map_take, List.map_drop]
  · rw [hw]
    show valP (D.L.take A.length ++ D.L.drop (A.length + 1)) x = _
    rw [hL, e1, valP_mid _ _ _ hx]
theorem gap_ids {L L' : List (Nat × Nat)} (h : L.map (·.1) = L'.map (·.1)) : gapOf L = gapOf L' := by
  have hl : L.length = L'.length := by have := congrArg List.length h; simpa using this
  have hg : ∀ j (h1 : j < L.length) (h2 : j < L'.length), L[j].1 = L'[j].1 := fun j h1 h2 => by
    have e : (L.map (·.1))[j]? = (L'.map (·.1))[j]? := by rw [h]
    rw [List.getElem?_map, List.getElem?_map, List.getElem?_eq_getElem h1, List.getElem?_eq_getElem h2] at e
    simpa using e
  have g := gapOf_is L
  refine Gap.same (L := L') ⟨by rw [← hl]; exact g.le, fun j hj hk => ?_, fun hk => ?_⟩ (gapOf_is L')
  · rw [← hg j (by omega) hj]; exact g.all j (by omega) hk
  · rw [← hg _ (by omega) hk]; exact g.not (by omega)
theorem ids_nodup {D : RS} (h : ∃ s, DRel s D) : D.ids.Nodup := by
  obtain ⟨s, hs⟩ := h
  unfold RS.ids
  rw [hs.L]
  unfold plL plR
  rw [List.map_map]
  refine List.Pairwise.map _ (R := fun a b => ¬ a = b) (fun a b q e => q ?_) (List.Pairwise.filter _ List.nodup_range')
  simpa using e
/-! ### Frames -/
def pinF (n : Nat) (f : Nat → FrS) (id : Nat) : Nat := match frm n f id with | some k => (f k).pins | none => 0
def seenF (n : Nat) (f : Nat → FrS) (L : List (Nat × Nat)) (id : Nat) : Nat := match frm n f id with | some k => (f k).val | none => valP L id
section
variable {n k id : Nat} {f : Nat → FrS} {D : RS} {x : FrS} {L : List (Nat × Nat)}
theorem frm_keep (H : Inv n f D) (hk : k < n) (h0 : ¬ (f k).id = 0) (hx : x.id = (f k).id) : frm n (upd f k x) id = frm n f id ∧ (id = (f k).id → frm n f id = some k) ∧ (¬ id = (f k).id → ∀ j, frm n f id = some j → ¬ j = k) :=
  ⟨frm_upd_same hk hx id, fun e => H.atf hk e.symm (e ▸ h0), fun e j hj c => by
    obtain ⟨_, q⟩ := frm_some hj
    rw [c] at q
    exact e q.symm⟩
theorem pinF_keep (H : Inv n f D) (hk : k < n) (h0 : ¬ (f k).id = 0) (hx : x.id = (f k).id) : pinF n (upd f k x) id = if id = (f k).id then x.pins else pinF n f id := by
  obtain ⟨e1, e2, e3⟩ := frm_keep (id := id) H hk h0 hx
  unfold pinF
  rw [e1]
  by_cases c : id = (f k).id
  · rw [if_pos c, e2 c]; simp only [upd_same]
  · rw [if_neg c]
    cases q : frm n f id with
    | none => rfl
    | some j => simp only [upd_other _ _ (e3 c j q)]
theorem seenF_keep (H : Inv n f D) (hk : k < n) (h0 : ¬ (f k).id = 0) (hx : x.id = (f k).id) : seenF n (upd f k x) L id = if id = (f k).id then x.val else seenF n f L id := by
  obtain ⟨e1, e2, e3⟩ := frm_keep (id := id) H hk h0 hx
  unfold seenF
  rw [e1]
  by_cases c : id = (f k).id
  · rw [if_pos c, e2 c]; simp only [upd_same]
  · rw [if_neg c]
    cases q : frm n f id with
    | none => rfl
    | some j => simp only [upd_other _ _ (e3 c j q)]
theorem frm_gone (H : Inv n f D) (hk : k < n) (h0 : ¬ (f k).id = 0) (h1 : 1 ≤ id) : frm n (upd f k zF) id = if id = (f k).id then none else frm n f id := by
  by_cases c : id = (f k).id
  · rw [if_pos c]
    apply frm_eq_none
    intro i hi e
    by_cases d : i = k
    · rw [d, upd_same] at e
      have : (0 : Nat) = id := e
      omega
    · rw [upd_other _ _ d] at e
      exact d (H.inj k i hk hi h0 (by rw [e, c])).symm
  · rw [if_neg c]
    exact frm_else hk (fun i hi => upd_other _ _ hi) (fun e => c e.symm) (by rw [upd_same]; show ¬ 0 = id; omega)
theorem frm_not (hj : frm n f id = some k) {i : Nat} (h : ¬ (f i).id = id) : ¬ k = i := fun e => h (e ▸ (frm_some hj).2)
theorem pinF_gone (H : Inv n f D) (hk : k < n) (h0 : ¬ (f k).id = 0) (h1 : 1 ≤ id) : pinF n (upd f k zF) id = if id = (f k).id then 0 else pinF n f id := by
  unfold pinF
  rw [frm_gone H hk h0 h1]
  by_cases c : id = (f k).id
  · rw [if_pos c, if_pos c]
  · rw [if_neg c, if_neg c]
    cases q : frm n f id with
    | none => rfl
    | some j => simp only [upd_other _ _ (frm_not q (fun e => c e.symm))]
theorem seenF_gone (H : Inv n f D) (hk : k < n) (h0 : ¬ (f k).id = 0) (h1 : 1 ≤ id) : seenF n (upd f k zF) L id = if id = (f k).id then valP L id else seenF n f L id := by
  unfold seenF
  rw [frm_gone H hk h0 h1]
  by_cases c : id = (f k).id
  · rw [if_pos c, if_pos c]
  · rw [if_neg c, if_neg c]
    cases q : frm n f id with
    | none => rfl
    | some j => simp only [upd_other _ _ (frm_not q (fun e => c e.symm))]
theorem frm_come (H : Inv n f D) (hk : k < n) (h0 : (f k).id = 0) (hx : 1 ≤ x.id) (hno : ∀ i, i < n → ¬ (f i).id = x.id) (h1 : 1 ≤ id) : frm n (upd f k x) id = if id = x.id then some k else frm n f id := by
  by_cases c : id = x.id
  · rw [if_pos c]
    subst c
    have : fstB n (fun i => decide ((upd f k x i).id = x.id)) = some k := by
      unfold fstB
      cases e : (List.range n).find? (fun i => decide ((upd f k x i).id = x.id)) with
      | none =>
        have := List.find?_eq_none.1 e k (List.mem_range.2 hk)
        simp [upd_same] at this
      | some j =>
        have h2 := List.find?_some e
        have h3 := List.mem_range.1 (List.mem_of_find?_eq_some e)
        by_cases d : j = k
        · rw [d]
        · simp only [upd_other _ _ d, decide_eq_true_eq] at h2
          exact (hno j h3 h2).elim
    exact this
  · rw [if_neg c]
    exact frm_else hk (fun i hi => upd_other _ _ hi) (by rw [h0]; omega) (by rw [upd_same]; exact fun e => c e.symm)
theorem pinF_come (H : Inv n f D) (hk : k < n) (h0 : (f k).id = 0) (hx : 1 ≤ x.id) (hno : ∀ i, i < n → ¬ (f i).id = x.id) (h1 : 1 ≤ id) : pinF n (upd f k x) id = if id = x.id then x.pins else pinF n f id := by
  unfold pinF
  rw [frm_come H hk h0 hx hno h1]
  by_cases c : id = x.id
  · rw [if_pos c, if_pos c]; simp only [upd_same]
  · rw [if_neg c, if_neg c]
    cases q : frm n f id with
    | none => rfl
    | some j => simp only [upd_other _ _ (frm_not q (i := k) (by rw [h0]; omega))]
theorem seenF_come (H : Inv n f D) (hk : k < n) (h0 : (f k).id = 0) (hx : 1 ≤ x.id) (hno : ∀ i, i < n → ¬ (f i).id = x.id) (h1 : 1 ≤ id) : seenF n (upd f k x) L id = if id = x.id then x.val else seenF n f L id := by
  unfold seenF
  rw [frm_come H hk h0 hx hno h1]
  by_cases c : id = x.id
  · rw [if_pos c, if_pos c]; simp only [upd_same]
  · rw [if_neg c, if_neg c]
    cases q : frm n f id with
    | none => rfl
    | some j => simp only [upd_other _ _ (frm_not q (i := k) (by rw [h0]; omega))]
end
/-- What a pool shows. -/
structure Abs {τ : Type} (n : Nat) (X : PS τ) (M : AM) : Prop where
  inv : Inv n X.f X.D
  ids : X.D.ids = M.ids
  room : X.D.room = M.room
  pin : ∀ id, 1 ≤ id → M.pin id = pinF n X.f id
  val : ∀ id, 1 ≤ id → id ∈ M.ids → M.val id = seenF n X.f X.D.L id
  cl : ∀ i, i < n → ¬ (X.f i).id = 0 → (X.f i).dirty = false → valP X.D.L (X.f i).id = (X.f i).val
  fine : Fine X.D
section
variable {τ : Type} {P : Adv τ} {n k id v : Nat} {X : PS τ} {M : AM}
theorem Abs.pos (A : Abs n X M) (h : id ∈ M.ids) : 1 ≤ id := A.inv.pos ((has_mem _ _).2 (by rw [A.ids]; exact h))
theorem Abs.has (A : Abs n X M) (id : Nat) : X.D.has id = decide (id ∈ M.ids) := by
  cases e : X.D.has id with
  | true => rw [← A.ids]; simp [(has_mem _ _).1 e]
  | false =>
    have : ¬ id ∈ M.ids := fun q => by rw [(has_mem _ _).2 (by rw [A.ids]; exact q)] at e; cases e
    simp [this]
/-- .. and another Replacer, other counts. -/
theorem Abs.sub {τ' : Type} (A : Abs n X M) {X' : PS τ'} (e1 : X'.f = X.f) (e2 : X'.D = X.D) : Abs n X' M := by
  obtain ⟨f', D', A', sc'⟩ := X'
  simp only at e1 e2
  subst e1 e2
  exact ⟨A.inv, A.ids, A.room, A.pin, A.val, A.cl, A.fine⟩
/-- How many pages are pinned. -/
theorem Abs.fullE (A : Abs n X M) : X.all n = M.full n := by
  have hnd : M.ids.Nodup := by rw [← A.ids]; exact ids_nodup A.inv.dr
  have hJ : (((List.range n).filter (fun i => decide (¬ (X.f i).id = 0) && decide (¬ (X.f i).pins = 0))).map (fun i => (X.f i).id)).Perm M.pinned := by
    refine (List.perm_ext_iff_of_nodup ?_ (hnd.filter _)).2 (fun id => ?_)
    · have hn := List.Pairwise.filter (fun i => decide (¬ (X.f i).id = 0) && decide (¬ (X.f i).pins = 0)) (List.nodup_range (n := n))
      refine List.pairwise_map.2 (List.Pairwise.imp_of_mem (fun {a b} ha hb hab e => ?_) hn)
      obtain ⟨a1, a2⟩ := List.mem_filter.1 ha
      obtain ⟨b1, b2⟩ := List.mem_filter.1 hb
      simp at a2
      exact hab (A.inv.inj a b (List.mem_range.1 a1) (List.mem_range.1 b1) a2.1 e)
    · rw [List.mem_map, List.mem_filter]
      constructor
      · rintro ⟨i, hi, rfl⟩
        obtain ⟨i1, i2⟩ := List.mem_filter.1 hi
        have i1 := List.mem_range.1 i1
        simp at i2
        have hm : (X.f i).id ∈ M.ids := by rw [← A.ids]; exact (has_mem _ _).1 (A.inv.has i i1 i2.1)
        refine ⟨hm, ?_⟩
        have hp := A.pin (X.f i).id (by omega)
        unfold pinF at hp
        rw [A.inv.atf i1 rfl i2.1] at hp
        simp [hp, i2.2]
      · rintro ⟨h1, h2⟩
        have h2 : ¬ M.pin id = 0 := by simpa using h2
        have hp := A.pin id (A.pos h1)
        unfold pinF at hp
        cases e : frm n X.f id with
        | none => rw [e] at hp; exact (h2 hp).elim
        | some j =>
          rw [e] at hp
          obtain ⟨j1, j2⟩ := frm_some e
          have := A.pos h1
          refine ⟨j, List.mem_filter.2 ⟨List.mem_range.2 j1, ?_⟩, j2⟩
          have hp : M.pin id = (X.f j).pins := hp
          simp; omega
  have hl : M.pinned.length = ((List.range n).filter (fun i => decide (¬ (X.f i).id = 0) && decide (¬ (X.f i).pins = 0))).length := by rw [← hJ.length_eq, List.length_map]
  unfold AM.full
  rw [hl]
  have key : X.all n = true ↔ ∀ i, i < n → (decide (¬ (X.f i).id = 0) && decide (¬ (X.f i).pins = 0)) = true := by
    unfold PS.all
    constructor
    · intro h i hi
      simp only [Bool.and_eq_true, Option.isNone_iff_eq_none] at h
      have q1 := fstB_none h.1 i hi
      have q2 := fstB_none h.2 i hi
      rw [emB_at hi] at q1
      rw [idB_at hi] at q2
      simp at q1 q2 ⊢
      exact ⟨q1, q2 q1⟩
    · intro h
      simp only [Bool.and_eq_true, Option.isNone_iff_eq_none]
      constructor
      · unfold fstB
        rw [List.find?_eq_none]
        intro i hi
        have hi := List.mem_range.1 hi
        have := h i hi
        rw [emB_at hi]; simp at this ⊢; exact this.1
      · unfold fstB
        rw [List.find?_eq_none]
        intro i hi
        have hi := List.mem_range.1 hi
        have := h i hi
        rw [idB_at hi]; simp at this ⊢; exact fun _ => this.2
  have hle := List.length_filter_le (fun i => decide (¬ (X.f i).id = 0) && decide (¬ (X.f i).pins = 0)) (List.range n)
  rw [List.length_range] at hle
  have hiff : (n ≤ ((List.range n).filter (fun i => decide (¬ (X.f i).id = 0) && decide (¬ (X.f i).pins = 0))).length) ↔ X.all n = true := by
    rw [key]
    constructor
    · intro h i hi
      have he : ((List.range n).filter (fun i => decide (¬ (X.f i).id = 0) && decide (¬ (X.f i).pins = 0))).length = (List.range n).length := by rw [List.length_range]; omega
      exact List.length_filter_eq_length_iff.1 he i (List.mem_range.2 hi)
    · intro h
      have : (List.range n).filter (fun i => decide (¬ (X.f i).id = 0) && decide (¬ (X.f i).pins = 0)) = List.range n := List.filter_eq_self.2 (fun i hi => h i (List.mem_range.1 hi))
      rw [this, List.length_range]; exact Nat.le_refl _
  cases e : X.all n with
  | true => rw [decide_eq_true (hiff.2 e)]
  | false => rw [decide_eq_false (fun q => by rw [hiff.1 q] at e; cases e)]
end
end Go.Proofs.YtmpjnphnljakiaaGreatDoor
namespace Go.Proofs.YtmpjnphnljakiaaGreatDoor
open Go.RowKit Go.Maps
set_option linter.unusedVariables false
set_option linter.unusedSimpArgs false
set_option linter.unusedSectionVars false

theorem seenF_L {n id : Nat} {f : Nat → FrS} {L L' : List (Nat × Nat)} (h : valP L id = valP L' id) : seenF n f L id = seenF n f L' id := by
  unfold seenF
  cases frm n f id with
  | none => exact h
  | some k => rfl
theorem pinF_at {n k : Nat} {f : Nat → FrS} {D : RS} (H : Inv n f D) (hk : k < n) (h0 : ¬ (f k).id = 0) : pinF n f (f k).id = (f k).pins := by
  unfold pinF; rw [H.atf hk rfl h0]
theorem seenF_at {n k : Nat} {f : Nat → FrS} {D : RS} {L : List (Nat × Nat)} (H : Inv n f D) (hk : k < n) (h0 : ¬ (f k).id = 0) : seenF n f L (f k).id = (f k).val := by
  unfold seenF; rw [H.atf hk rfl h0]
theorem pinF_no {n id : Nat} {f : Nat → FrS} (h : ∀ i, i < n → ¬ (f i).id = id) : pinF n f id = 0 := by
  unfold pinF; rw [frm_eq_none h]
theorem seenF_no {n id : Nat} {f : Nat → FrS} {L : List (Nat × Nat)} (h : ∀ i, i < n → ¬ (f i).id = id) : seenF n f L id = valP L id := by
  unfold seenF; rw [frm_eq_none h]
theorem vicX_I {τ : Type} (P : Adv τ) {n id x0 : Nat} (A : τ) {I : Nat → Bool} (hx0 : fstB n I = some x0) : I (vicX P n A I id).1 = true := by
  obtain ⟨h2, h3⟩ := fstB_some hx0
  unfold vicX
  rw [hx0]
  cases P.victim A id with
  | none => exact h3.1
  | some a =>
    dsimp only
    by_cases c : I a = true
    · rw [if_pos c]; exact c
    · rw [if_neg c]; exact h3.1
section
variable {τ : Type} {P : Adv τ} {n k id v : Nat} {X : PS τ} {M : AM}
/-- A frame's fields change. -/
theorem Abs.keep (A : Abs n X M) (hk : k < n) (h0 : ¬ (X.f k).id = 0) {x : FrS} (hx : x.id = (X.f k).id) (hv : x.val < 18446744073709551616) (hc : x.dirty = false → valP X.D.L x.id = x.val) (a : τ) (sc : Nat) :
    Abs n ⟨upd X.f k x, X.D, a, sc⟩ { M with pin := upd M.pin (X.f k).id x.pins, val := upd M.val (X.f k).id x.val } := by
  refine ⟨A.inv.keep hk hx h0 hv, A.ids, A.room, fun id h1 => ?_, fun id h1 hm => ?_, fun i hi q1 q2 => ?_, A.fine⟩
  · show upd M.pin (X.f k).id x.pins id = pinF n (upd X.f k x) id
    rw [pinF_keep A.inv hk h0 hx]
    by_cases c : id = (X.f k).id
    · rw [if_pos c, c, upd_same]
    · rw [if_neg c, upd_other _ _ c]; exact A.pin id h1
  · show upd M.val (X.f k).id x.val id = seenF n (upd X.f k x) X.D.L id
    rw [seenF_keep A.inv hk h0 hx]
    by_cases c : id = (X.f k).id
    · rw [if_pos c, c, upd_same]
    · rw [if_neg c, upd_other _ _ c]; exact A.val id h1 hm
  · by_cases c : i = k
    · subst c
      simp only [upd_same] at q1 q2 ⊢
      exact hc q2
    · simp only [upd_other _ _ c] at q1 q2 ⊢
      exact A.cl i hi q1 q2
/-- A page comes to an empty frame. -/
theorem Abs.enter (A : Abs n X M) (hk : k < n) (hz : X.f k = zF) (hm : id ∈ M.ids) (hno : ∀ i, i < n → ¬ (X.f i).id = id) {p : Nat} (a : τ) (sc : Nat) :
    Abs n ⟨upd X.f k ⟨id, valP X.D.L id, p, false⟩, X.D, a, sc⟩ { M with pin := upd M.pin id p } := by
  have h0 : (X.f k).id = 0 := by rw [hz]; rfl
  have hp := A.pos hm
  have hv : M.val id = valP X.D.L id := by rw [A.val id hp hm, seenF_no hno]
  have hvb : valP X.D.L id < 18446744073709551616 := by
    rcases atP_of (l := X.D.L) (id := id) with ⟨h1, h2⟩ | ⟨B, u, C, e1, _, _, e4⟩
    · have : valP X.D.L id = 0 := by unfold valP; rw [h1]
      rw [this]; omega
    · rw [e4]; exact A.inv.vd (id, u) (by rw [e1]; simp)
  refine ⟨A.inv.enter hk h0 (by rw [has_mem, A.ids]; exact hm) hno hvb, A.ids, A.room, fun id' h1 => ?_, fun id' h1 hm' => ?_, fun i hi q1 q2 => ?_, A.fine⟩
  · show upd M.pin id p id' = pinF n (upd X.f k _) id'
    rw [pinF_come A.inv hk h0 hp hno h1]
    by_cases c : id' = id
    · rw [if_pos c, c, upd_same]
    · rw [if_neg c, upd_other _ _ c]; exact A.pin id' h1
  · show M.val id' = seenF n (upd X.f k _) X.D.L id'
    rw [seenF_come A.inv hk h0 hp hno h1]
    by_cases c : id' = id
    · rw [if_pos c, c]; exact hv
    · rw [if_neg c]; exact A.val id' h1 hm'
  · by_cases c : i = k
    · subst c
      simp only [upd_same]
    · simp only [upd_other _ _ c] at q1 q2 ⊢
      exact A.cl i hi q1 q2
/-- A page leaves its frame; what it holds is on the disk. -/
theorem Abs.leave (A : Abs n X M) (hk : k < n) (h0 : ¬ (X.f k).id = 0) (hp : (X.f k).pins = 0) {D' : RS} (hF : Fine D') (hi : Inv n (upd X.f k zF) D') (e1 : D'.ids = X.D.ids) (e2 : D'.room = X.D.room) (e3 : ∀ x, valP D'.L x = if x = (X.f k).id then (X.f k).val else valP X.D.L x) (a : τ) (sc : Nat) :
    Abs n ⟨upd X.f k zF, D', a, sc⟩ M := by
  refine ⟨hi, by rw [e1]; exact A.ids, by rw [e2]; exact A.room, fun id h1 => ?_, fun id h1 hm => ?_, fun i hi q1 q2 => ?_, hF⟩
  · show M.pin id = pinF n (upd X.f k zF) id
    rw [pinF_gone A.inv hk h0 h1]
    by_cases c : id = (X.f k).id
    · rw [if_pos c, A.pin id h1, c, pinF_at A.inv hk h0]; exact hp
    · rw [if_neg c]; exact A.pin id h1
  · show M.val id = seenF n (upd X.f k zF) D'.L id
    rw [seenF_gone A.inv hk h0 h1]
    by_cases c : id = (X.f k).id
    · rw [if_pos c, e3, if_pos c, A.val id h1 hm, c, seenF_at A.inv hk h0]
    · rw [if_neg c, A.val id h1 hm]
      exact seenF_L (by rw [e3, if_neg c])
  · by_cases c : i = k
    · subst c
      simp only [upd_same] at q1
      exact (q1 rfl).elim
    · simp only [upd_other _ _ c] at q1 q2 ⊢
      have hne : ¬ (X.f i).id = (X.f k).id := fun e => c (A.inv.inj i k hi hk q1 e)
      show valP D'.L (X.f i).id = _
      rw [e3, if_neg hne]
      exact A.cl i hi q1 q2
/-- Room for a page that comes. -/
theorem Abs.roomE (A : Abs n X M) (h1 : 1 ≤ id) (hno : ∀ i, i < n → ¬ (X.f i).id = id) (hall : ¬ X.all n = true) :
    ∃ k, (X.room P n id).1 = (some k, 0) ∧ k < n ∧ (X.room P n id).2.f k = zF ∧ Abs n (X.room P n id).2 M ∧ ∀ i, i < n → ¬ ((X.room P n id).2.f i).id = id := by
  unfold PS.room
  cases he : fstB n (emB n X.f) with
  | some x =>
    obtain ⟨x1, x2⟩ := fstB_some he
    have x3 : (X.f x).id = 0 := by have := x2.1; rw [emB_at x1] at this; simpa using this
    exact ⟨x, rfl, x1, A.inv.em x x1 x3, A.sub rfl rfl, hno⟩
  | none =>
    have hid : ∃ x0, fstB n (idB n X.f) = some x0 := by
      cases e : fstB n (idB n X.f) with
      | some x0 => exact ⟨x0, rfl⟩
      | none => exact (hall (by unfold PS.all; rw [he, e]; rfl)).elim
    obtain ⟨x0, hx0⟩ := hid
    have hI : idB n X.f (X.vic P n id).1 = true := vicX_I P _ hx0
    dsimp only
    generalize hV : X.vic P n id = V at *
    obtain ⟨vk, va, vs⟩ := V
    simp only at hI ⊢
    have hvk : vk < n := by unfold idB at hI; simp at hI; exact hI.1
    have hv2 : ¬ (X.f vk).id = 0 ∧ (X.f vk).pins = 0 := by rw [idB_at hvk] at hI; simpa using hI
    have hmem : (X.f vk).id ∈ X.D.ids := (has_mem _ _).1 (A.inv.has vk hvk hv2.1)
    have hno2 : ∀ i, i < n → ¬ (upd X.f vk zF i).id = id := fun i hi e => by
      by_cases c : i = vk
      · rw [c, upd_same] at e
        have e : 0 = id := e
        omega
      · rw [upd_other _ _ c] at e; exact hno i hi e
    obtain ⟨w1, w2, w3, w4, w5⟩ := write_good A.fine hmem (X.f vk).val
    by_cases hd : (X.f vk).dirty = true
    · rw [if_pos hd, if_pos w1]
      exact ⟨vk, rfl, hvk, upd_same _ _ _, A.leave hvk hv2.1 hv2.2 w2 ((A.inv.vac hvk).write _ (A.inv.vf vk hvk)) w3 w4 w5 _ _, hno2⟩
    · rw [if_neg hd]
      have hcl := A.cl vk hvk hv2.1 (by simpa using hd)
      exact ⟨vk, rfl, hvk, upd_same _ _ _, A.leave hvk hv2.1 hv2.2 A.fine (A.inv.vac hvk) rfl rfl (fun x => by
        by_cases c : x = (X.f vk).id
        · rw [if_pos c, c]; exact hcl
        · rw [if_neg c]) _ _, hno2⟩
theorem updS (c : Nat → Nat) {i v : Nat} (h : c i = v) : upd c i v = c := by
  funext j
  by_cases e : j = i
  · rw [e, upd_same, h]
  · rw [upd_other _ _ e]
theorem AM.mk' {M : AM} {v p : Nat → Nat} (hv : v = M.val) : ({ M with pin := p, val := v } : AM) = { M with pin := p } := by rw [hv]
theorem AM.mk2 {M : AM} {v p : Nat → Nat} (hp : p = M.pin) : ({ M with pin := p, val := v } : AM) = { M with val := v } := by rw [hp]
theorem AM.mk3 {M : AM} {v p : Nat → Nat} (hv : v = M.val) (hp : p = M.pin) : ({ M with pin := p, val := v } : AM) = M := by rw [hv, hp]
/-- A page in a frame. -/
theorem Abs.at (A : Abs n X M) (hm : id ∈ M.ids) (h : frm n X.f id = some k) : k < n ∧ (X.f k).id = id ∧ (¬ (X.f k).id = 0) ∧ M.pin id = (X.f k).pins ∧ M.val id = (X.f k).val := by
  obtain ⟨h1, h2⟩ := frm_some h
  have hp := A.pos hm
  refine ⟨h1, h2, by omega, ?_, ?_⟩
  · rw [A.pin id hp]; unfold pinF; rw [h]
  · rw [A.val id hp hm]; unfold seenF; rw [h]
theorem Abs.away (A : Abs n X M) (hm : id ∈ M.ids) (h : frm n X.f id = none) : (∀ i, i < n → ¬ (X.f i).id = id) ∧ M.pin id = 0 := by
  refine ⟨frm_none h, ?_⟩
  rw [A.pin id (A.pos hm)]; unfold pinF; rw [h]
/-- An idle frame: there is room. -/
theorem Abs.notFull (A : Abs n X M) (hk : k < n) (hp : (X.f k).pins = 0) : ¬ X.all n = true := by
  intro h
  unfold PS.all at h
  simp only [Bool.and_eq_true, Option.isNone_iff_eq_none] at h
  have q1 := fstB_none h.1 k hk
  have q2 := fstB_none h.2 k hk
  rw [emB_at hk] at q1
  rw [idB_at hk] at q2
  simp at q1 q2
  exact q2 q1 hp
theorem Abs.gapE (A : Abs n X M) : gapOf X.D.L = M.gap := by
  unfold AM.gap
  refine gap_ids ?_
  rw [List.map_map]
  have : M.ids.map ((fun p : Nat × Nat => p.1) ∘ fun x => (x, 0)) = M.ids := List.map_id' _
  rw [this]; exact A.ids
theorem Abs.newPageE (A : Abs n X M) : (X.newPage P n).1 = (M.newPage n).1 ∧ Abs n (X.newPage P n).2 (M.newPage n).2 := by
  have hlen : X.D.L.length = M.ids.length := by rw [← A.ids]; unfold RS.ids; rw [List.length_map]
  unfold PS.newPage AM.newPage
  by_cases c1 : X.all n = true
  · rw [if_pos c1, if_pos (show M.full n = true from by rw [← A.fullE]; exact c1)]; exact ⟨rfl, A⟩
  · rw [if_neg c1, if_neg (show ¬ M.full n = true from by rw [← A.fullE]; exact c1)]
    by_cases c2 : X.D.room ≤ X.D.L.length
    · rw [if_pos c2, if_pos (show M.room ≤ M.ids.length from by rw [← A.room, ← hlen]; exact c2)]; exact ⟨rfl, A⟩
    · rw [if_neg c2, if_neg (show ¬ M.room ≤ M.ids.length from by rw [← A.room, ← hlen]; exact c2)]
      have hg := A.gapE
      have hgap := A.inv.gap
      have hins := A.inv.ins (show X.D.L.length < X.D.room by omega)
      obtain ⟨i1, i2⟩ := ins_good X.D (gapOf X.D.L)
      rw [hg] at hgap hins i1 i2 ⊢
      generalize M.gap = g at *
      have hno : ∀ i, i < n → ¬ (X.f i).id = g + 1 := fun i hi e => by
        have := A.inv.has i hi (by rw [e]; omega)
        rw [e, hgap] at this; cases this
      have hni : ¬ g + 1 ∈ M.ids := fun q => by
        rw [(has_mem X.D _).2 (by rw [A.ids]; exact q)] at hgap; cases hgap
      have hv0 : valP (X.D.ins g).L (g + 1) = 0 := by
        unfold RS.ins
        dsimp only
        rw [List.append_assoc, List.singleton_append]
        refine valP_split (fun p hp e => hni ?_)
        rw [← A.ids, ← e]
        exact List.mem_map.2 ⟨p, List.mem_of_mem_take hp, rfl⟩
      have hmem : ∀ x, x ∈ M.ids.take g ++ [g + 1] ++ M.ids.drop g ↔ x = g + 1 ∨ x ∈ M.ids := fun x => by
        have e : M.ids = M.ids.take g ++ M.ids.drop g := (List.take_append_drop g M.ids).symm
        conv => rhs; rw [e]
        simp only [List.mem_append, List.mem_singleton]
        constructor
        · rintro ((h | h) | h)
          · exact .inr (.inl h)
          · exact .inl h
          · exact .inr (.inr h)
        · rintro (h | h | h)
          · exact .inl (.inr h)
          · exact .inl (.inl h)
          · exact .inr h
      have A1 : Abs n ({ X with D := X.D.ins g } : PS τ) { M with ids := M.ids.take g ++ [g + 1] ++ M.ids.drop g, val := upd M.val (g + 1) 0 } := by
        refine ⟨hins, by show (X.D.ins g).ids = _; rw [i1, A.ids], A.room, A.pin, fun id h1 hm => ?_, fun i hi q1 q2 => ?_, ⟨A.fine.st, A.fine.nr, A.fine.ns⟩⟩
        · show upd M.val (g + 1) 0 id = seenF n X.f (X.D.ins g).L id
          by_cases c : id = g + 1
          · rw [c, upd_same, seenF_no hno, hv0]
          · rw [upd_other _ _ c, seenF_L (i2 id c)]
            exact A.val id h1 (((hmem id).1 hm).resolve_left c)
        · show valP (X.D.ins g).L (X.f i).id = _
          rw [i2 _ (hno i hi)]; exact A.cl i hi q1 q2
      obtain ⟨k, r1, r2, r3, r4, r5⟩ := A1.roomE (P := P) (id := g + 1) (by omega) hno (by exact c1)
      have hv2 : valP (PS.room P n { X with D := X.D.ins g } (g + 1)).2.D.L (g + 1) = 0 := by
        have := r4.val (g + 1) (by omega) ((hmem _).2 (.inl rfl))
        rw [seenF_no r5] at this
        rw [← this]; exact upd_same _ _ _
      have A2 := r4.enter r2 r3 ((hmem _).2 (.inl rfl)) r5 (p := 1) (P.access (PS.room P n { X with D := X.D.ins g } (g + 1)).2.A k (g + 1)) (PS.room P n { X with D := X.D.ins g } (g + 1)).2.sc
      rw [hv2] at A2
      rw [r1]
      exact ⟨rfl, A2⟩
theorem Abs.fetchE (A : Abs n X M) (id : Nat) : (X.fetch P n id).1 = (M.fetch n id).1 ∧ Abs n (X.fetch P n id).2 (M.fetch n id).2 := by
  unfold PS.fetch AM.fetch
  rw [A.has]
  by_cases hm : id ∈ M.ids
  · rw [if_pos (by simpa using hm), if_pos hm]
    cases hf : frm n X.f id with
    | some k =>
      obtain ⟨k1, k2, k3, k4, k5⟩ := A.at hm hf
      have hnf : ¬ (M.pin id = 0 ∧ M.full n = true) := fun q => A.notFull k1 (by rw [← k4]; exact q.1) (by rw [A.fullE]; exact q.2)
      rw [if_neg hnf]
      refine ⟨rfl, ?_⟩
      have h : Abs n (X.touch P k) { M with pin := upd M.pin (X.f k).id ((X.f k).pins + 1), val := upd M.val (X.f k).id (X.f k).val } := A.keep k1 k3 (x := { X.f k with pins := (X.f k).pins + 1 }) rfl (A.inv.vf k k1) (fun q => A.cl k k1 k3 q) (if (X.f k).pins = 0 then P.set (P.access X.A k (X.f k).id) k false else P.access X.A k (X.f k).id) X.sc
      rw [AM.mk' (updS _ (by rw [k2]; exact k5)), k2, ← k4] at h
      exact h
    | none =>
      obtain ⟨h1, h2⟩ := A.away hm hf
      dsimp only
      by_cases c : X.all n = true
      · rw [if_pos c, if_pos ⟨h2, by rw [← A.fullE]; exact c⟩]; exact ⟨rfl, A⟩
      · rw [if_neg c, if_neg (fun q => c (by rw [A.fullE]; exact q.2))]
        obtain ⟨k, r1, r2, r3, r4, r5⟩ := A.roomE (P := P) (A.pos hm) h1 c
        rw [r1]
        dsimp only
        obtain ⟨g1, g2, g3, g4, g5⟩ := read_good r4.fine (id := id) (by rw [r4.ids]; exact hm)
        rw [g1, if_pos rfl]
        refine ⟨rfl, ?_⟩
        have A2 := r4.enter r2 r3 hm r5 (p := 1) (P.access (X.room P n id).2.A k id) (X.room P n id).2.sc
        rw [show M.pin id + 1 = 1 from by rw [h2]]
        exact ⟨by exact A2.inv.read id, by show ((X.room P n id).2.D.read id).2.ids = _; rw [g3]; exact r4.ids, by show ((X.room P n id).2.D.read id).2.room = _; rw [g4]; exact r4.room, A2.pin, fun id' q1 q2 => by
          have := A2.val id' q1 q2
          show M.val id' = seenF n _ ((X.room P n id).2.D.read id).2.L id'
          rw [g5]; exact this, fun i hi q1 q2 => by
          have := A2.cl i hi q1 q2
          show valP ((X.room P n id).2.D.read id).2.L _ = _
          rw [g5]; exact this, g2⟩
  · rw [if_neg (by simpa using hm), if_neg hm]; exact ⟨rfl, A⟩
theorem Abs.heldE (A : Abs n X M) (id : Nat) : (X.held n id).2 = M.held id ∧ (M.held id = 0 → id ∈ M.ids ∧ frm n X.f id = some (X.held n id).1) := by
  unfold PS.held AM.held
  rw [A.has]
  by_cases hm : id ∈ M.ids
  · rw [if_pos (by simpa using hm), if_pos hm]
    cases hf : frm n X.f id with
    | some k =>
      obtain ⟨k1, k2, k3, k4, k5⟩ := A.at hm hf
      rw [k4]
      dsimp only
      by_cases c : (X.f k).pins = 0
      · rw [if_pos c, if_pos c]; exact ⟨rfl, fun q => (by cases q)⟩
      · rw [if_neg c, if_neg c]; exact ⟨rfl, fun _ => ⟨hm, rfl⟩⟩
    | none =>
      obtain ⟨h1, h2⟩ := A.away hm hf
      rw [if_pos h2]; exact ⟨rfl, fun q => (by cases q)⟩
  · rw [if_neg (by simpa using hm), if_neg hm]; exact ⟨rfl, fun q => (by cases q)⟩
theorem Abs.unpinE (A : Abs n X M) (id : Nat) : (X.unpin P n id).1 = (M.unpin id).1 ∧ Abs n (X.unpin P n id).2 (M.unpin id).2 := by
  obtain ⟨h1, h2⟩ := A.heldE id
  unfold PS.unpin AM.unpin
  rw [h1]
  by_cases c : M.held id = 0
  · rw [if_pos c, if_pos c]
    obtain ⟨hm, hf⟩ := h2 c
    obtain ⟨k1, k2, k3, k4, k5⟩ := A.at hm hf
    generalize (X.held n id).1 = k at *
    refine ⟨rfl, ?_⟩
    have e : ({ M with pin := upd M.pin (X.f k).id ((X.f k).pins - 1), val := upd M.val (X.f k).id (X.f k).val } : AM) = { M with pin := upd M.pin id (M.pin id - 1) } := by rw [AM.mk' (updS _ (by rw [k2]; exact k5)), k2, ← k4]
    rw [← e]
    exact A.keep k1 k3 (x := { X.f k with pins := (X.f k).pins - 1 }) rfl (A.inv.vf k k1) (fun q => A.cl k k1 k3 q) (if (X.f k).pins = 1 then P.set X.A k true else X.A) X.sc
  · rw [if_neg c, if_neg c]; exact ⟨rfl, A⟩
theorem Abs.readE (A : Abs n X M) (id : Nat) : X.read n id = M.read id := by
  obtain ⟨h1, h2⟩ := A.heldE id
  unfold PS.read AM.read
  rw [h1]
  by_cases c : M.held id = 0
  · rw [if_pos c, if_pos c]
    obtain ⟨hm, hf⟩ := h2 c
    obtain ⟨k1, k2, k3, k4, k5⟩ := A.at hm hf
    rw [k5]
  · rw [if_neg c, if_neg c]
theorem Abs.writeE (A : Abs n X M) (id : Nat) {v : Nat} (hv : v < 18446744073709551616) : (X.write n id v).1 = (M.write id v).1 ∧ Abs n (X.write n id v).2 (M.write id v).2 := by
  obtain ⟨h1, h2⟩ := A.heldE id
  unfold PS.write AM.write
  rw [h1]
  by_cases c : M.held id = 0
  · rw [if_pos c, if_pos c]
    obtain ⟨hm, hf⟩ := h2 c
    obtain ⟨k1, k2, k3, k4, k5⟩ := A.at hm hf
    generalize (X.held n id).1 = k at *
    refine ⟨rfl, ?_⟩
    have e : ({ M with pin := upd M.pin (X.f k).id (X.f k).pins, val := upd M.val (X.f k).id v } : AM) = { M with val := upd M.val id v } := by rw [AM.mk2 (updS _ (by rw [k2]; exact k4)), k2]
    rw [← e]
    exact A.keep k1 k3 (x := { X.f k with val := v, dirty := true }) rfl hv (fun q => (by cases q)) X.A X.sc
  · rw [if_neg c, if_neg c]; exact ⟨rfl, A⟩
theorem Abs.pinsE (A : Abs n X M) (h1 : 1 ≤ id) (hp : ∀ x, ¬ x ∈ M.ids → M.pin x = 0) : X.pins n id = M.pin id := by
  obtain ⟨e1, e2⟩ := A.heldE id
  unfold PS.pins
  rw [e1]
  by_cases c : M.held id = 0
  · rw [if_pos c]
    obtain ⟨hm, hf⟩ := e2 c
    exact (A.at hm hf).2.2.2.1.symm
  · rw [if_neg c]
    unfold AM.held at c
    by_cases hm : id ∈ M.ids
    · rw [if_pos hm] at c
      by_cases q : M.pin id = 0
      · exact q.symm
      · rw [if_neg q] at c; exact (c rfl).elim
    · exact (hp id hm).symm
/-- A frame is made clean. -/
theorem Abs.cleanE (A : Abs n X M) (hk : k < n) (h0 : ¬ (X.f k).id = 0) : (X.clean k).1 = 0 ∧ Abs n (X.clean k).2 M ∧ (∀ i, ((X.clean k).2.f i).id = (X.f i).id) ∧ (∀ i, ((X.clean k).2.f i).dirty = true → (X.f i).dirty = true ∧ ¬ i = k) := by
  unfold PS.clean
  by_cases hd : (X.f k).dirty = true
  · have hmem : (X.f k).id ∈ X.D.ids := (has_mem _ _).1 (A.inv.has k hk h0)
    obtain ⟨w1, w2, w3, w4, w5⟩ := write_good A.fine hmem (X.f k).val
    rw [if_pos hd, if_pos w1]
    refine ⟨rfl, ?_, fun i => ?_, fun i q => ?_⟩
    · have hi := (A.inv.keep hk (x := { X.f k with dirty := false }) rfl h0 (A.inv.vf k hk)).write (X.f k).id (A.inv.vf k hk)
      refine ⟨hi, by show (X.D.write _ _).2.ids = _; rw [w3]; exact A.ids, by show (X.D.write _ _).2.room = _; rw [w4]; exact A.room, fun id h1 => ?_, fun id h1 hm => ?_, fun i hi q1 q2 => ?_, w2⟩
      · show M.pin id = pinF n (upd X.f k _) id
        rw [pinF_keep A.inv hk h0 (by rfl)]
        by_cases c : id = (X.f k).id
        · rw [if_pos c, A.pin id h1, c, pinF_at A.inv hk h0]
        · rw [if_neg c]; exact A.pin id h1
      · show M.val id = seenF n (upd X.f k _) (X.D.write _ _).2.L id
        rw [seenF_keep A.inv hk h0 (by rfl)]
        by_cases c : id = (X.f k).id
        · rw [if_pos c, A.val id h1 hm, c, seenF_at A.inv hk h0]
        · rw [if_neg c, A.val id h1 hm]
          exact seenF_L (by rw [w5, if_neg c])
      · by_cases c : i = k
        · subst c
          simp only [upd_same]
          show valP (X.D.write _ _).2.L _ = _
          rw [w5, if_pos rfl]
        · simp only [upd_other _ _ c] at q1 q2 ⊢
          have hne : ¬ (X.f i).id = (X.f k).id := fun e => c (A.inv.inj i k hi hk q1 e)
          show valP (X.D.write _ _).2.L _ = _
          rw [w5, if_neg hne]
          exact A.cl i hi q1 q2
    · by_cases c : i = k
      · subst c; simp only [upd_same]
      · simp only [upd_other _ _ c]
    · by_cases c : i = k
      · subst c; simp only [upd_same] at q; cases q
      · simp only [upd_other _ _ c] at q; exact ⟨q, c⟩
  · rw [if_neg hd]
    exact ⟨rfl, A, fun _ => rfl, fun i q => ⟨q, fun e => hd (e ▸ q)⟩⟩
theorem Abs.flushE (A : Abs n X M) (id : Nat) : (X.flush n id).1 = M.flush id ∧ Abs n (X.flush n id).2 M := by
  unfold PS.flush AM.flush
  rw [A.has]
  by_cases hm : id ∈ M.ids
  · rw [if_pos (by simpa using hm), if_pos hm]
    cases hf : frm n X.f id with
    | some k =>
      obtain ⟨k1, k2, k3, k4, k5⟩ := A.at hm hf
      obtain ⟨c1, c2, _⟩ := A.cleanE k1 k3
      exact ⟨c1, c2⟩
    | none => exact ⟨rfl, A⟩
  · rw [if_neg (by simpa using hm), if_neg hm]; exact ⟨rfl, A⟩
theorem Abs.deleteE (A : Abs n X M) (id : Nat) : (X.delete P n id).1 = (M.delete id).1 ∧ Abs n (X.delete P n id).2 (M.delete id).2 := by
  unfold PS.delete AM.delete
  rw [A.has]
  by_cases hm : id ∈ M.ids
  · rw [if_pos (by simpa using hm), if_pos hm]
    have hnd : M.ids.Nodup := by rw [← A.ids]; exact ids_nodup A.inv.dr
    obtain ⟨f1, f2, f3, f4, f5, f6, f7⟩ := free_good (D := X.D) (id := id) (by rw [A.ids]; exact hm)
    have hout : ∀ x, x ∈ outI M.ids id → x ∈ M.ids ∧ ¬ x = id := fun x hx => by
      rw [← A.ids] at hx hnd ⊢
      obtain ⟨B, u, C, e1, e2, e3, e4⟩ := has_split (D := X.D) (id := id) (by rw [A.ids]; exact hm)
      have hids : X.D.ids = B.map (·.1) ++ id :: C.map (·.1) := by unfold RS.ids; rw [e1]; simp
      have ho : outI X.D.ids id = B.map (·.1) ++ C.map (·.1) := by
        rw [← f2, RS.ids]
        have : (X.D.free id).2.L = B ++ C := by
          unfold RS.free
          rw [e3]
          show X.D.L.take B.length ++ X.D.L.drop (B.length + 1) = _
          rw [e1]; simp
        rw [this, List.map_append]
      rw [ho] at hx
      rw [hids] at hnd ⊢
      obtain ⟨_, n2, n3⟩ := List.nodup_append.1 hnd
      rcases List.mem_append.1 hx with q | q
      · exact ⟨List.mem_append.2 (.inl q), n3 x q id (List.mem_cons_self ..)⟩
      · exact ⟨List.mem_append.2 (.inr (List.mem_cons_of_mem _ q)), fun e => (List.nodup_cons.1 n2).1 (e ▸ q)⟩
    cases hf : frm n X.f id with
    | some k =>
      obtain ⟨k1, k2, k3, k4, k5⟩ := A.at hm hf
      rw [k4]
      dsimp only
      by_cases c : (X.f k).pins = 0
      · rw [if_pos c, if_pos c]
        have hno : ∀ i, i < n → ¬ (upd X.f k zF i).id = id := fun i hi e => by
          by_cases d : i = k
          · rw [d, upd_same] at e
            have e : 0 = id := e
            omega
          · rw [upd_other _ _ d] at e
            exact d (A.inv.inj i k hi k1 (by omega) (by omega))
        have hfree := (A.inv.vac k1).free (id := id) hno
        refine ⟨rfl, hfree, by show (X.D.free id).2.ids = _; rw [f2, A.ids], by show (X.D.free id).2.room = _; rw [f3]; exact A.room, fun id' h1 => ?_, fun id' h1 hm' => ?_, fun i hi q1 q2 => ?_, ⟨by show (X.D.free id).2.stops = _; rw [f4]; exact A.fine.st, by show (X.D.free id).2.nr = _; rw [f5]; exact A.fine.nr, by show (X.D.free id).2.ns = _; rw [f6]; exact A.fine.ns⟩⟩
        · show M.pin id' = pinF n (upd X.f k zF) id'
          rw [pinF_gone A.inv k1 k3 h1]
          by_cases d : id' = (X.f k).id
          · rw [if_pos d, d, k2, k4]; exact c
          · rw [if_neg d]; exact A.pin id' h1
        · show M.val id' = seenF n (upd X.f k zF) (X.D.free id).2.L id'
          obtain ⟨o1, o2⟩ := hout id' hm'
          rw [seenF_gone A.inv k1 k3 h1, if_neg (by rw [k2]; exact o2), A.val id' h1 o1]
          exact seenF_L (f7 id' o2).symm
        · by_cases d : i = k
          · subst d; simp only [upd_same] at q1; exact (q1 rfl).elim
          · simp only [upd_other _ _ d] at q1 q2 ⊢
            have hne : ¬ (X.f i).id = id := fun e => d (A.inv.inj i k hi k1 q1 (by omega))
            show valP (X.D.free id).2.L _ = _
            rw [f7 _ hne]; exact A.cl i hi q1 q2
      · rw [if_neg c, if_neg c]; exact ⟨rfl, A⟩
    | none =>
      obtain ⟨h1, h2⟩ := A.away hm hf
      rw [if_pos h2]
      refine ⟨rfl, A.inv.free h1, by show (X.D.free id).2.ids = _; rw [f2, A.ids], by show (X.D.free id).2.room = _; rw [f3]; exact A.room, A.pin, fun id' h1' hm' => ?_, fun i hi q1 q2 => ?_, ⟨by show (X.D.free id).2.stops = _; rw [f4]; exact A.fine.st, by show (X.D.free id).2.nr = _; rw [f5]; exact A.fine.nr, by show (X.D.free id).2.ns = _; rw [f6]; exact A.fine.ns⟩⟩
      · obtain ⟨o1, o2⟩ := hout id' hm'
        show M.val id' = seenF n X.f (X.D.free id).2.L id'
        rw [A.val id' h1' o1]
        exact seenF_L (f7 id' o2).symm
      · show valP (X.D.free id).2.L _ = _
        rw [f7 _ (h1 i hi)]; exact A.cl i hi q1 q2
  · rw [if_neg (by simpa using hm), if_neg hm]; exact ⟨rfl, A⟩
/-- FlushAll. -/
theorem Abs.flushLE (A : Abs n X M) : ∀ l : List Nat, (∀ k ∈ l, k < n ∧ ¬ (X.f k).id = 0) → (X.flushL l).1 = 0 ∧ Abs n (X.flushL l).2 M ∧ (∀ i, ((X.flushL l).2.f i).id = (X.f i).id) ∧ ∀ i, ((X.flushL l).2.f i).dirty = true → (X.f i).dirty = true ∧ ¬ i ∈ l := by
  intro l
  induction l generalizing X with
  | nil => exact fun _ => ⟨rfl, A, fun _ => rfl, fun i q => ⟨q, fun h => (by cases h)⟩⟩
  | cons k l ih =>
    intro hl
    obtain ⟨k1, k2⟩ := hl k (List.mem_cons_self ..)
    obtain ⟨c1, c2, c3, c4⟩ := A.cleanE k1 k2
    obtain ⟨r1, r2, r3, r4⟩ := ih c2 (fun j hj => by
      obtain ⟨q1, q2⟩ := hl j (List.mem_cons_of_mem _ hj)
      exact ⟨q1, by rw [c3]; exact q2⟩)
    have e : X.flushL (k :: l) = (X.clean k).2.flushL l := by
      unfold PS.flushL
      rw [List.foldl_cons]
      have : flF (0, X) k = (0, (X.clean k).2) := by unfold flF; rw [if_pos c1]
      rw [this]
    rw [e]
    refine ⟨r1, r2, fun i => (r3 i).trans (c3 i), fun i q => ?_⟩
    obtain ⟨q1, q2⟩ := r4 i q
    obtain ⟨q3, q4⟩ := c4 i q1
    exact ⟨q3, fun h => (List.mem_cons.1 h).elim q4 q2⟩
end
end Go.Proofs.YtmpjnphnljakiaaGreatDoor
namespace Go.Proofs.YtmpjnphnljakiaaGreatDoor
open Go.RowKit Go.Maps
set_option linter.unusedVariables false
set_option linter.unusedSimpArgs false
set_option linter.unusedSectionVars false

/-- How many frames are dirty. -/
def drt : Nat → (Nat → FrS) → Nat
  | 0, _ => 0
  | n + 1, f => drt n f + if (f n).dirty = true then 1 else 0
def b01 (b : Bool) : Nat := if b = true then 1 else 0
theorem drt_away (n : Nat) (f : Nat → FrS) {k : Nat} (x : FrS) (h : n ≤ k) : drt n (upd f k x) = drt n f := by
  induction n with
  | zero => rfl
  | succ n ih =>
    unfold drt
    rw [ih (by omega), upd_other _ _ (by omega)]
theorem drt_upd (n : Nat) (f : Nat → FrS) {k : Nat} (x : FrS) (h : k < n) : drt n (upd f k x) + b01 (f k).dirty = drt n f + b01 x.dirty := by
  induction n with
  | zero => omega
  | succ n ih =>
    unfold drt
    by_cases c : k = n
    · subst c
      rw [drt_away _ _ _ (Nat.le_refl _), upd_same]
      unfold b01
      omega
    · rw [upd_other _ _ (fun e => c e.symm)]
      have := ih (by omega)
      omega
theorem drt_same {n : Nat} {f : Nat → FrS} {k : Nat} {x : FrS} (h : k < n) (e : x.dirty = (f k).dirty) : drt n (upd f k x) = drt n f := by
  have := drt_upd n f x h
  rw [e] at this
  omega
theorem drt_0 (n : Nat) : drt n (fun _ => zF) = 0 := by
  induction n with
  | zero => rfl
  | succ n ih => unfold drt; rw [ih]; rfl
/-- Writes there were, and those that may still come. -/
def cnt {τ : Type} (n : Nat) (X : PS τ) : Nat := X.D.wr + drt n X.f
theorem write_n (D : RS) (id v : Nat) : (D.write id v).2.rd = D.rd ∧ ((D.write id v).1 = 0 → (D.write id v).2.wr = D.wr + 1) ∧ (¬ (D.write id v).1 = 0 → (D.write id v).2.wr = D.wr) := by
  unfold RS.write
  cases atP D.L id with
  | none => exact ⟨rfl, fun h => (by cases h), fun _ => rfl⟩
  | some k =>
    dsimp only
    split
    · exact ⟨rfl, fun h => (by cases h), fun _ => rfl⟩
    · split
      · exact ⟨rfl, fun h => (by cases h), fun _ => rfl⟩
      · exact ⟨rfl, fun _ => rfl, fun h => (h rfl).elim⟩
theorem read_n (D : RS) (id : Nat) : (D.read id).2.wr = D.wr ∧ D.rd ≤ (D.read id).2.rd ∧ (D.read id).2.rd ≤ D.rd + 1 := by
  unfold RS.read
  cases atP D.L id with
  | none => exact ⟨rfl, Nat.le_refl _, Nat.le_succ _⟩
  | some k =>
    dsimp only
    split
    · exact ⟨rfl, Nat.le_refl _, Nat.le_succ _⟩
    · split
      · exact ⟨rfl, Nat.le_refl _, Nat.le_succ _⟩
      · exact ⟨rfl, Nat.le_succ _, Nat.le_refl _⟩
theorem free_n (D : RS) (id : Nat) : (D.free id).2.wr = D.wr ∧ (D.free id).2.rd = D.rd := by
  unfold RS.free
  cases atP D.L id with
  | none => exact ⟨rfl, rfl⟩
  | some k => exact ⟨rfl, rfl⟩
section
variable {τ : Type} {P : Adv τ} {n k id v : Nat} {X : PS τ} {M : AM}
theorem room_n (hall : ¬ X.all n = true) : cnt n (X.room P n id).2 = cnt n X ∧ (X.room P n id).2.D.rd = X.D.rd := by
  unfold PS.room
  cases he : fstB n (emB n X.f) with
  | some x => exact ⟨rfl, rfl⟩
  | none =>
    obtain ⟨x0, hx0⟩ : ∃ x0, fstB n (idB n X.f) = some x0 := by
      cases e : fstB n (idB n X.f) with
      | some x0 => exact ⟨x0, rfl⟩
      | none => exact (hall (by unfold PS.all; rw [he, e]; rfl)).elim
    have hI : idB n X.f (X.vic P n id).1 = true := vicX_I P _ hx0
    dsimp only
    generalize hV : X.vic P n id = V at *
    obtain ⟨vk, va, vs⟩ := V
    simp only at hI ⊢
    have hvk : vk < n := by unfold idB at hI; simp at hI; exact hI.1
    obtain ⟨w1, w2, w3⟩ := write_n X.D (X.f vk).id (X.f vk).val
    have hz := drt_upd n X.f zF hvk
    have z0 : b01 zF.dirty = 0 := rfl
    by_cases hd : (X.f vk).dirty = true
    · have d1 : b01 (X.f vk).dirty = 1 := by rw [hd]; rfl
      rw [if_pos hd]
      by_cases hw : (X.D.write (X.f vk).id (X.f vk).val).1 = 0
      · rw [if_pos hw]
        refine ⟨?_, w1⟩
        show (X.D.write (X.f vk).id (X.f vk).val).2.wr + drt n (upd X.f vk zF) = X.D.wr + drt n X.f
        rw [w2 hw]; omega
      · rw [if_neg hw]
        refine ⟨?_, w1⟩
        show (X.D.write (X.f vk).id (X.f vk).val).2.wr + drt n X.f = X.D.wr + drt n X.f
        rw [w3 hw]
    · have d1 : b01 (X.f vk).dirty = 0 := by unfold b01; rw [if_neg hd]
      rw [if_neg hd]
      refine ⟨?_, rfl⟩
      show X.D.wr + drt n (upd X.f vk zF) = X.D.wr + drt n X.f
      omega
theorem room_z (hem : ∀ i, i < n → (X.f i).id = 0 → X.f i = zF) (hall : ¬ X.all n = true) : ∀ k, (X.room P n id).1.1 = some k → k < n ∧ (X.room P n id).2.f k = zF := by
  unfold PS.room
  cases he : fstB n (emB n X.f) with
  | some x =>
    obtain ⟨x1, x2⟩ := fstB_some he
    have x3 : (X.f x).id = 0 := by have := x2.1; rw [emB_at x1] at this; simpa using this
    intro k hk
    cases hk
    exact ⟨x1, hem x x1 x3⟩
  | none =>
    obtain ⟨x0, hx0⟩ : ∃ x0, fstB n (idB n X.f) = some x0 := by
      cases e : fstB n (idB n X.f) with
      | some x0 => exact ⟨x0, rfl⟩
      | none => exact (hall (by unfold PS.all; rw [he, e]; rfl)).elim
    have hI : idB n X.f (X.vic P n id).1 = true := vicX_I P _ hx0
    dsimp only
    generalize hV : X.vic P n id = V at *
    obtain ⟨vk, va, vs⟩ := V
    simp only at hI ⊢
    have hvk : vk < n := by unfold idB at hI; simp at hI; exact hI.1
    by_cases hd : (X.f vk).dirty = true
    · rw [if_pos hd]
      by_cases hw : (X.D.write (X.f vk).id (X.f vk).val).1 = 0
      · rw [if_pos hw]
        intro k hk
        cases hk
        exact ⟨hvk, upd_same _ _ _⟩
      · rw [if_neg hw]
        intro k hk
        cases hk
    · rw [if_neg hd]
      intro k hk
      cases hk
      exact ⟨hvk, upd_same _ _ _⟩
theorem newPage_n (A : Abs n X M) : cnt n (X.newPage P n).2 = cnt n X ∧ (X.newPage P n).2.D.rd = X.D.rd := by
  unfold PS.newPage
  by_cases c1 : X.all n = true
  · rw [if_pos c1]; exact ⟨rfl, rfl⟩
  · rw [if_neg c1]
    by_cases c2 : X.D.room ≤ X.D.L.length
    · rw [if_pos c2]; exact ⟨rfl, rfl⟩
    · rw [if_neg c2]
      have hins := A.inv.ins (show X.D.L.length < X.D.room by omega)
      have hgap := A.inv.gap
      have hno : ∀ i, i < n → ¬ (X.f i).id = gapOf X.D.L + 1 := fun i hi e => by
        have := A.inv.has i hi (by rw [e]; omega)
        rw [e, hgap] at this; cases this
      have h := room_n (P := P) (id := gapOf X.D.L + 1) (X := ({ X with D := X.D.ins (gapOf X.D.L) } : PS τ)) (n := n) c1
      have hz := (room_z (P := P) (X := ({ X with D := X.D.ins (gapOf X.D.L) } : PS τ)) (id := gapOf X.D.L + 1) (n := n) (fun i hi h0 => A.inv.em i hi h0) c1)
      generalize PS.room P n { X with D := X.D.ins (gapOf X.D.L) } (gapOf X.D.L + 1) = R at *
      obtain ⟨⟨r1, r2⟩, Y⟩ := R
      dsimp only at *
      cases r1 with
      | none =>
        dsimp only
        obtain ⟨q1, q2⟩ := free_n Y.D (gapOf X.D.L + 1)
        refine ⟨?_, q2.trans h.2⟩
        show (Y.D.free (gapOf X.D.L + 1)).2.wr + drt n Y.f = _
        rw [q1]; exact h.1
      | some k =>
        dsimp only
        obtain ⟨z1, z2⟩ := hz k rfl
        refine ⟨?_, h.2⟩
        show Y.D.wr + drt n (upd Y.f k ⟨gapOf X.D.L + 1, 0, 1, false⟩) = _
        rw [drt_same z1 (by rw [z2]; rfl)]
        exact h.1
theorem fetch_n (A : Abs n X M) (id : Nat) : cnt n (X.fetch P n id).2 = cnt n X ∧ X.D.rd ≤ (X.fetch P n id).2.D.rd ∧ (X.fetch P n id).2.D.rd ≤ X.D.rd + 1 ∧ (¬ frm n X.f id = none → (X.fetch P n id).2.D.rd = X.D.rd) := by
  unfold PS.fetch
  by_cases hh : X.D.has id = true
  · rw [if_pos hh]
    cases hf : frm n X.f id with
    | some k =>
      dsimp only
      obtain ⟨k1, _⟩ := frm_some hf
      refine ⟨?_, Nat.le_refl _, Nat.le_succ _, fun _ => rfl⟩
      show X.D.wr + drt n (upd X.f k { X.f k with pins := (X.f k).pins + 1 }) = _
      rw [drt_same k1 (by rfl)]
      rfl
    | none =>
      dsimp only
      by_cases c : X.all n = true
      · rw [if_pos c]; exact ⟨rfl, Nat.le_refl _, Nat.le_succ _, fun _ => rfl⟩
      · rw [if_neg c]
        have h := room_n (P := P) (id := id) (X := X) (n := n) c
        have hz := room_z (P := P) (X := X) (id := id) (n := n) A.inv.em c
        generalize X.room P n id = R at *
        obtain ⟨⟨r1, r2⟩, Y⟩ := R
        dsimp only at *
        cases r1 with
        | none => exact ⟨h.1, by rw [h.2]; exact Nat.le_refl _, by rw [h.2]; exact Nat.le_succ _, fun q => (q rfl).elim⟩
        | some k =>
          dsimp only
          obtain ⟨z1, z2⟩ := hz k rfl
          obtain ⟨q1, q2, q3⟩ := read_n Y.D id
          split
          · refine ⟨?_, by show X.D.rd ≤ (Y.D.read id).2.rd; omega, by show (Y.D.read id).2.rd ≤ _; omega, fun q => (q rfl).elim⟩
            show (Y.D.read id).2.wr + drt n (upd Y.f k ⟨id, (Y.D.read id).1.1, 1, false⟩) = _
            rw [drt_same z1 (by rw [z2]; rfl), q1]
            exact h.1
          · refine ⟨?_, by show X.D.rd ≤ (Y.D.read id).2.rd; omega, by show (Y.D.read id).2.rd ≤ _; omega, fun q => (q rfl).elim⟩
            show (Y.D.read id).2.wr + drt n Y.f = _
            rw [q1]
            exact h.1
  · rw [if_neg hh]; exact ⟨rfl, Nat.le_refl _, Nat.le_succ _, fun _ => rfl⟩
theorem held_lt (A : Abs n X M) (h : (X.held n id).2 = 0) : (X.held n id).1 < n := by
  unfold PS.held at h ⊢
  by_cases c : X.D.has id = true
  · rw [if_pos c] at h ⊢
    cases hf : frm n X.f id with
    | none => rw [hf] at h; cases h
    | some k =>
      rw [hf] at h
      dsimp only at h ⊢
      split at h
      · cases h
      · next q => rw [if_neg q]; exact (frm_some hf).1
  · rw [if_neg c] at h; cases h
theorem unpin_n (A : Abs n X M) (id : Nat) : cnt n (X.unpin P n id).2 = cnt n X ∧ (X.unpin P n id).2.D.rd = X.D.rd := by
  unfold PS.unpin
  by_cases c : (X.held n id).2 = 0
  · rw [if_pos c]
    refine ⟨?_, rfl⟩
    show X.D.wr + drt n (upd X.f (X.held n id).1 { X.f (X.held n id).1 with pins := (X.f (X.held n id).1).pins - 1 }) = _
    rw [drt_same (held_lt A c) (by rfl)]
    rfl
  · rw [if_neg c]; exact ⟨rfl, rfl⟩
theorem write_k (A : Abs n X M) (id v : Nat) : cnt n (X.write n id v).2 ≤ cnt n X + (if (X.held n id).2 = 0 then 1 else 0) ∧ (X.write n id v).2.D.rd = X.D.rd := by
  unfold PS.write
  by_cases c : (X.held n id).2 = 0
  · rw [if_pos c, if_pos c]
    refine ⟨?_, rfl⟩
    have h := drt_upd n X.f { X.f (X.held n id).1 with val := v, dirty := true } (held_lt A c)
    have e : b01 ({ X.f (X.held n id).1 with val := v, dirty := true } : FrS).dirty = 1 := rfl
    show X.D.wr + drt n (upd X.f (X.held n id).1 { X.f (X.held n id).1 with val := v, dirty := true }) ≤ X.D.wr + drt n X.f + 1
    omega
  · rw [if_neg c, if_neg c]; exact ⟨Nat.le_refl _, rfl⟩
theorem clean_n (hk : k < n) : cnt n (X.clean k).2 = cnt n X ∧ (X.clean k).2.D.rd = X.D.rd := by
  unfold PS.clean
  obtain ⟨w1, w2, w3⟩ := write_n X.D (X.f k).id (X.f k).val
  by_cases hd : (X.f k).dirty = true
  · rw [if_pos hd]
    have hz := drt_upd n X.f { X.f k with dirty := false } hk
    have z0 : b01 ({ X.f k with dirty := false } : FrS).dirty = 0 := rfl
    have d1 : b01 (X.f k).dirty = 1 := by rw [hd]; rfl
    by_cases hw : (X.D.write (X.f k).id (X.f k).val).1 = 0
    · rw [if_pos hw]
      refine ⟨?_, w1⟩
      show (X.D.write (X.f k).id (X.f k).val).2.wr + drt n (upd X.f k { X.f k with dirty := false }) = X.D.wr + drt n X.f
      rw [w2 hw]; omega
    · rw [if_neg hw]
      refine ⟨?_, w1⟩
      show (X.D.write (X.f k).id (X.f k).val).2.wr + drt n X.f = X.D.wr + drt n X.f
      rw [w3 hw]
  · rw [if_neg hd]; exact ⟨rfl, rfl⟩
theorem flush_n (id : Nat) : cnt n (X.flush n id).2 = cnt n X ∧ (X.flush n id).2.D.rd = X.D.rd := by
  unfold PS.flush
  split
  · cases hf : frm n X.f id with
    | none => exact ⟨rfl, rfl⟩
    | some k => exact clean_n (frm_some hf).1
  · exact ⟨rfl, rfl⟩
theorem flushL_n (l : List Nat) (hl : ∀ k ∈ l, k < n) : cnt n (X.flushL l).2 = cnt n X ∧ (X.flushL l).2.D.rd = X.D.rd := by
  have key : ∀ (l : List Nat) (a : Nat × PS τ), (∀ k ∈ l, k < n) → cnt n (l.foldl flF a).2 = cnt n a.2 ∧ (l.foldl flF a).2.D.rd = a.2.D.rd := fun l => by
    induction l with
    | nil => exact fun _ _ => ⟨rfl, rfl⟩
    | cons k l ih =>
      intro a h
      obtain ⟨i1, i2⟩ := ih (flF a k) (fun j hj => h j (List.mem_cons_of_mem _ hj))
      obtain ⟨c1, c2⟩ := clean_n (X := a.2) (h k List.mem_cons_self)
      rw [List.foldl_cons, i1, i2]
      exact ⟨c1, c2⟩
  exact key l _ hl
theorem delete_n (A : Abs n X M) (id : Nat) : cnt n (X.delete P n id).2 ≤ cnt n X ∧ (X.delete P n id).2.D.rd = X.D.rd := by
  unfold PS.delete
  obtain ⟨q1, q2⟩ := free_n X.D id
  split
  · cases hf : frm n X.f id with
    | none => exact ⟨by show (X.D.free id).2.wr + drt n X.f ≤ X.D.wr + drt n X.f; omega, q2⟩
    | some k =>
      dsimp only
      split
      · refine ⟨?_, q2⟩
        have h := drt_upd n X.f zF (frm_some hf).1
        have z0 : b01 zF.dirty = 0 := rfl
        show (X.D.free id).2.wr + drt n (upd X.f k zF) ≤ X.D.wr + drt n X.f
        omega
      · exact ⟨Nat.le_refl _, rfl⟩
  · exact ⟨Nat.le_refl _, rfl⟩
/-! ### How many pages are in frames -/
/-- How many of the numbers below k have it. -/
def cntB14 : Nat → (Nat → Bool) → Nat
  | 0, _ => 0
  | k + 1, g => cntB14 k g + if g k = true then 1 else 0
theorem cntB14_le (n : Nat) (g : Nat → Bool) (tz : Nat → Nat) (h1 : ∀ x, g x = true → tz x < n) (h2 : ∀ x y, g x = true → g y = true → tz x = tz y → x = y) (k : Nat) : cntB14 k g ≤ n := by
  have key : ∀ k, ∃ l : List Nat, l.Nodup ∧ l.length = cntB14 k g ∧ ∀ y ∈ l, ∃ x, x < k ∧ g x = true ∧ tz x = y := fun k => by
    induction k with
    | zero => exact ⟨[], List.nodup_nil, rfl, fun y h => by cases h⟩
    | succ k ih =>
      obtain ⟨l, a1, a2, a3⟩ := ih
      by_cases c : g k = true
      · refine ⟨tz k :: l, List.nodup_cons.2 ⟨fun q => ?_, a1⟩, by unfold cntB14; rw [if_pos c, List.length_cons, a2], fun y hy => ?_⟩
        · obtain ⟨x, x1, x2, x3⟩ := a3 _ q
          have := h2 x k x2 c x3
          omega
        · rcases List.mem_cons.1 hy with e | e
          · exact ⟨k, by omega, c, e.symm⟩
          · obtain ⟨x, x1, x2, x3⟩ := a3 y e
            exact ⟨x, by omega, x2, x3⟩
      · exact ⟨l, a1, by unfold cntB14; rw [if_neg c, a2]; rfl, fun y hy => by
          obtain ⟨x, x1, x2, x3⟩ := a3 y hy
          exact ⟨x, by omega, x2, x3⟩⟩
  obtain ⟨l, a1, a2, a3⟩ := key k
  rw [← a2]
  have hsub : ∀ y ∈ l, y ∈ List.range n := fun y hy => by
    obtain ⟨x, x1, x2, x3⟩ := a3 y hy
    rw [List.mem_range, ← x3]
    exact h1 x x2
  have := List.Nodup.length_le_of_subset a1 hsub
  simpa using this
theorem frame_in (h : 0 ≤ X.frame n id) : ∃ k, k < n ∧ X.frame n id = (k : Int) ∧ (X.f k).id = id := by
  unfold PS.frame plO at h ⊢
  by_cases c : X.D.has id = true
  · rw [if_pos c] at h ⊢
    cases hf : frm n X.f id with
    | none => rw [hf] at h; exact absurd h (by decide)
    | some k => obtain ⟨k1, k2⟩ := frm_some hf; exact ⟨k, k1, rfl, k2⟩
  · rw [if_neg c] at h; exact absurd h (by decide)
theorem frame_frm (h : 0 ≤ X.frame n id) : ¬ frm n X.f id = none := by
  unfold PS.frame plO at h
  by_cases c : X.D.has id = true
  · rw [if_pos c] at h
    intro q
    rw [q] at h
    exact absurd h (by decide)
  · rw [if_neg c] at h; exact absurd h (by decide)
theorem frames_n (A : Abs n X M) (k : Nat) : cntB14 k (fun x => decide (0 ≤ X.frame n x)) ≤ n := by
  refine cntB14_le n _ (fun x => (X.frame n x).toNat) (fun x h => ?_) (fun x y h1 h2 e => ?_) k
  · obtain ⟨j, hj, e, _⟩ := frame_in (of_decide_eq_true h)
    rw [e]
    simpa using hj
  · obtain ⟨j, hj, ej, dj⟩ := frame_in (of_decide_eq_true h1)
    obtain ⟨i, hi, ei, di⟩ := frame_in (of_decide_eq_true h2)
    rw [ej, ei] at e
    have : j = i := by simpa using e
    subst this
    rw [← dj, ← di]
end
end Go.Proofs.YtmpjnphnljakiaaGreatDoor
namespace Go.Proofs.YtmpjnphnljakiaaGreatDoor
open Go.RowKit Go.Maps
set_option linter.unusedVariables false
set_option linter.unusedSimpArgs false
set_option linter.unusedSectionVars false

/-- Whom the Replacer names may go. -/
def Good0 {τ : Type} (P : Adv τ) (n : Nat) (ok : Nat → τ → (Nat → Nat) → (Nat → Bool) → Prop) : Prop :=
  ∀ (m : Nat) (s : τ) (pg : Nat → Nat) (ev : Nat → Bool) (id : Nat), ok m s pg ev → (∃ x, Goer n pg ev x) → ∃ a, P.victim s id = some a ∧ Goer n pg ev a
section
variable {τ : Type} {P : Adv τ} {RR : World → τ → (Nat → Prop) → Prop} {ok : Nat → τ → (Nat → Nat) → (Nat → Bool) → Prop} {p : PP} (S : RepSys P RR p.pb p.rv p.n ok) {m : Nat} {X : PS τ} {id : Nat}
include S
theorem room_sc (G : Good0 P p.n ok) (hm : m < 90000) (ho : ok m X.A (pgO X.f) (evO X.f)) (h1 : 1 ≤ id) (hno : ∀ i, i < p.n → ¬ (X.f i).id = id) (hall : ¬ X.all p.n = true) : (X.room P p.n id).2.sc = X.sc := by
  unfold PS.room
  cases he : fstB p.n (emB p.n X.f) with
  | some x => rfl
  | none =>
    have hid : ∃ x0, fstB p.n (idB p.n X.f) = some x0 := by
      cases e : fstB p.n (idB p.n X.f) with
      | some x0 => exact ⟨x0, rfl⟩
      | none => exact (hall (by unfold PS.all; rw [he, e]; rfl)).elim
    obtain ⟨x0, hx0⟩ := hid
    have hs0 : (X.vic P p.n id).2.2 = 0 := by
      have okM := S.okMiss ho hm h1 hno
      obtain ⟨a, ha, hg⟩ := G _ _ _ _ id okM ⟨x0, (goer_iff _ _ _).1 (fstB_some hx0).2.1⟩
      unfold PS.vic
      rw [vicX_yes ha ((goer_iff _ _ _).2 hg)]
    dsimp only
    rw [hs0]
    repeat' split
    all_goals rfl
theorem newPage_sc (G : Good0 P p.n ok) (hI : Inv p.n X.f X.D) (hm : m < 90000) (ho : ok m X.A (pgO X.f) (evO X.f)) : (X.newPage P p.n).2.sc = X.sc := by
  unfold PS.newPage
  by_cases c1 : X.all p.n = true
  · rw [if_pos c1]
  · rw [if_neg c1]
    by_cases c2 : X.D.room ≤ X.D.L.length
    · rw [if_pos c2]
    · rw [if_neg c2]
      have hgap := hI.gap
      have hno : ∀ i, i < p.n → ¬ (X.f i).id = gapOf X.D.L + 1 := fun i hi e => by
        have := hI.has i hi (by rw [e]; omega)
        rw [e, hgap] at this; cases this
      have h := room_sc S G (X := ({ X with D := X.D.ins (gapOf X.D.L) } : PS τ)) hm ho (id := gapOf X.D.L + 1) (by omega) hno c1
      cases (PS.room P p.n { X with D := X.D.ins (gapOf X.D.L) } (gapOf X.D.L + 1)).1.1 with
      | none => exact h
      | some k => exact h
theorem fetch_sc (G : Good0 P p.n ok) (hI : Inv p.n X.f X.D) (hm : m < 90000) (ho : ok m X.A (pgO X.f) (evO X.f)) (id : Nat) : (X.fetch P p.n id).2.sc = X.sc := by
  unfold PS.fetch
  by_cases hh : X.D.has id = true
  · rw [if_pos hh]
    cases hf : frm p.n X.f id with
    | some k => rfl
    | none =>
      dsimp only
      by_cases c : X.all p.n = true
      · rw [if_pos c]
      · rw [if_neg c]
        have h := room_sc S G hm ho (id := id) (hI.pos hh) (frm_none hf) c
        cases (X.room P p.n id).1.1 with
        | none => exact h
        | some k =>
          dsimp only
          split <;> exact h
  · rw [if_neg hh]
end
theorem clean_sc {τ : Type} (X : PS τ) (k : Nat) : (X.clean k).2.sc = X.sc := by
  unfold PS.clean
  split
  · split <;> rfl
  · rfl
theorem flushL_sc {τ : Type} (X : PS τ) (l : List Nat) : (X.flushL l).2.sc = X.sc := by
  have key : ∀ (l : List Nat) (a : Nat × PS τ), (l.foldl flF a).2.sc = a.2.sc := fun l => by
    induction l with
    | nil => exact fun _ => rfl
    | cons k l ih => intro a; rw [List.foldl_cons, ih]; exact clean_sc _ _
  exact key l _
/-! ### The map, on and on -/
/-- Only pages that there are can be pinned. -/
def AM.okA (M : AM) : Prop := ∀ x, ¬ x ∈ M.ids → M.pin x = 0
section
variable {M : AM} {n id v : Nat}
theorem AM.okA_np (h : M.okA) : (M.newPage n).2.okA := by
  unfold AM.newPage
  repeat' split
  · exact h
  · exact h
  · intro x hx
    have hx : ¬ x ∈ M.ids.take M.gap ++ [M.gap + 1] ++ M.ids.drop M.gap := hx
    have e : M.ids = M.ids.take M.gap ++ M.ids.drop M.gap := (List.take_append_drop M.gap M.ids).symm
    simp only [List.mem_append, List.mem_singleton, not_or] at hx
    show upd M.pin (M.gap + 1) 1 x = 0
    rw [upd_other _ _ hx.1.2]
    refine h x (fun q => ?_)
    rw [e, List.mem_append] at q
    exact q.elim hx.1.1 hx.2
theorem AM.okA_pin (h : M.okA) (hm : id ∈ M.ids) (q : Nat) : ({ M with pin := upd M.pin id q } : AM).okA := fun x hx => by
  show upd M.pin id q x = 0
  rw [upd_other _ _ (fun e => hx (by rw [e]; exact hm))]; exact h x hx
theorem AM.okA_fe (h : M.okA) : (M.fetch n id).2.okA := by
  unfold AM.fetch
  split
  · rename_i hm
    split
    · exact h
    · exact AM.okA_pin h hm _
  · exact h
theorem AM.held_mem (h : M.held id = 0) : id ∈ M.ids := by
  unfold AM.held at h
  by_cases c : id ∈ M.ids
  · exact c
  · rw [if_neg c] at h; cases h
theorem AM.okA_un (h : M.okA) : (M.unpin id).2.okA := by
  unfold AM.unpin
  split
  · rename_i hm; exact AM.okA_pin h (AM.held_mem hm) _
  · exact h
theorem AM.okA_wr (h : M.okA) : (M.write id v).2.okA := by
  unfold AM.write
  split
  · exact h
  · exact h
theorem outI_mem {l : List Nat} {x y : Nat} (h : x ∈ l) : x ∈ outI l y ∨ x = y := by
  unfold outI
  cases e : l.findIdx? (fun z => z == y) with
  | none => exact .inl h
  | some k =>
    obtain ⟨hk, h1, _⟩ := List.findIdx?_eq_some_iff_getElem.1 e
    have h1 : l[k] = y := by simpa using h1
    have e2 : l = l.take k ++ l[k] :: l.drop (k + 1) := by rw [← List.drop_eq_getElem_cons hk, List.take_append_drop]
    rw [e2, List.mem_append, List.mem_cons] at h
    rcases h with h | h | h
    · exact .inl (List.mem_append.2 (.inl h))
    · exact .inr (h.trans h1)
    · exact .inl (List.mem_append.2 (.inr h))
theorem AM.okA_de (h : M.okA) : (M.delete id).2.okA := by
  unfold AM.delete
  split
  · split
    · rename_i h0
      intro x hx
      have hx : ¬ x ∈ outI M.ids id := hx
      show M.pin x = 0
      by_cases c : x ∈ M.ids
      · rw [(outI_mem c).resolve_left hx]; exact h0
      · exact h x c
    · exact h
  · exact h
end
/-- A pool that shows the map M; q: its Replacer's victims may go, and there was no scan. -/
def AnyP (p : PP) (q : Bool) (M : AM) (m : Nat) (w : World) (F : Nat → Prop) : Prop :=
  ∃ (τ : Type) (P : Adv τ) (RR : World → τ → (Nat → Prop) → Prop) (ok : Nat → τ → (Nat → Nat) → (Nat → Bool) → Prop) (X : PS τ), RepSys P RR p.pb p.rv p.n ok ∧ PW RR ok p X m w F ∧ Abs p.n X M ∧ M.okA ∧ (q = true → X.sc = 0 ∧ Good0 P p.n ok)
/-- Likewise; r: how often its disk was read; c: no more writes there were, with those that may still come; g: which frame each page is in. -/
def AnyK (p : PP) (q : Bool) (r c : Nat) (g : Nat → Int) (M : AM) (m : Nat) (w : World) (F : Nat → Prop) : Prop :=
  ∃ (τ : Type) (P : Adv τ) (RR : World → τ → (Nat → Prop) → Prop) (ok : Nat → τ → (Nat → Nat) → (Nat → Bool) → Prop) (X : PS τ), RepSys P RR p.pb p.rv p.n ok ∧ PW RR ok p X m w F ∧ Abs p.n X M ∧ M.okA ∧ (q = true → X.sc = 0 ∧ Good0 P p.n ok) ∧ X.D.rd = r ∧ cnt p.n X ≤ c ∧ ∀ id, X.frame p.n id = g id
theorem AnyK.any {p : PP} {q : Bool} {r c m : Nat} {g : Nat → Int} {M : AM} {w : World} {F : Nat → Prop} (h : AnyK p q r c g M m w F) : AnyP p q M m w F := by
  obtain ⟨τ, P, RR, ok, X, S, H, A, O, K, _⟩ := h
  exact ⟨τ, P, RR, ok, X, S, H, A, O, K⟩
theorem AnyK.fr0 {p : PP} {q : Bool} {r c m : Nat} {g : Nat → Int} {M : AM} {w w' : World} {F : Nat → Prop} (h : AnyK p q r c g M m w F) (f : Fr NoF w w') : AnyK p q r c g M m w' F := by
  obtain ⟨τ, P, RR, ok, X, S, H, A⟩ := h
  exact ⟨τ, P, RR, ok, X, S, H.fr0 S f, A⟩
section
variable {p : PP} {q : Bool} {M : AM} {m id v : Nat} {w w' : World} {F : Nat → Prop}
theorem AnyP.fr0 (h : AnyP p q M m w F) (f : Fr NoF w w') : AnyP p q M m w' F := by
  obtain ⟨τ, P, RR, ok, X, S, H, A, O, G⟩ := h
  exact ⟨τ, P, RR, ok, X, S, H.fr0 S f, A, O, G⟩
theorem AnyP.more (h : AnyP p q M m w F) {k : Nat} (hk : m ≤ k) : AnyP p q M k w F := by
  obtain ⟨τ, P, RR, ok, X, S, H, A, O, G⟩ := h
  exact ⟨τ, P, RR, ok, X, S, H.more S hk, A, O, G⟩
theorem AnyP.np (h : AnyP p q M m w F) (hm : m < 60000) : Calls Tryz.prog 35 #[p.ptr] w fun e w' => e = .returned (.tuple #[.int .u32 (M.newPage p.n).1.1, .int .i64 (M.newPage p.n).1.2]) ∧ Led (AnyP p q (M.newPage p.n).2 (m + 10)) F w w' := by
  obtain ⟨τ, P, RR, ok, X, S, H, A, O, G⟩ := h
  obtain ⟨e1, A2⟩ := A.newPageE (P := P)
  refine (np_calls S H hm).mono fun e w' ⟨he, hl⟩ => ⟨by rw [he, e1], hl.mono (fun F' h' => ⟨τ, P, RR, ok, _, S, h', A2, AM.okA_np O, fun hq => ⟨?_, (G hq).2⟩⟩)⟩
  rw [newPage_sc S (G hq).2 H.2.1 (by omega) H.2.2]; exact (G hq).1
theorem AnyP.fe (h : AnyP p q M m w F) (hm : m < 60000) (hu : id < 4294967296) : Calls Tryz.prog 36 #[p.ptr, .int .u32 id] w fun e w' => e = .returned (.int .i64 (M.fetch p.n id).1) ∧ Led (AnyP p q (M.fetch p.n id).2 (m + 10)) F w w' := by
  obtain ⟨τ, P, RR, ok, X, S, H, A, O, G⟩ := h
  obtain ⟨e1, A2⟩ := A.fetchE (P := P) id
  refine (fe_calls S H hm hu).mono fun e w' ⟨he, hl⟩ => ⟨by rw [he, e1], hl.mono (fun F' h' => ⟨τ, P, RR, ok, _, S, h', A2, AM.okA_fe O, fun hq => ⟨?_, (G hq).2⟩⟩)⟩
  rw [fetch_sc S (G hq).2 H.2.1 (by omega) H.2.2]; exact (G hq).1
theorem AnyP.un (h : AnyP p q M m w F) (hm : m < 60000) (hu : id < 4294967296) : Calls Tryz.prog 37 #[p.ptr, .int .u32 id] w fun e w' => e = .returned (.int .i64 (M.unpin id).1) ∧ Led (AnyP p q (M.unpin id).2 (m + 10)) F w w' := by
  obtain ⟨τ, P, RR, ok, X, S, H, A, O, G⟩ := h
  obtain ⟨e1, A2⟩ := A.unpinE (P := P) id
  refine (un_calls S H hm hu).mono fun e w' ⟨he, hl⟩ => ⟨by rw [he, e1], hl.mono (fun F' h' => ⟨τ, P, RR, ok, _, S, h', A2, AM.okA_un O, fun hq => ⟨?_, (G hq).2⟩⟩)⟩
  unfold PS.unpin
  split
  · exact (G hq).1
  · exact (G hq).1
theorem AnyP.rd (h : AnyP p q M m w F) (hu : id < 4294967296) : Calls Tryz.prog 38 #[p.ptr, .int .u32 id] w fun e w' => e = .returned (.tuple #[.int .u64 (M.read id).1, .int .i64 (M.read id).2]) ∧ w = w' := by
  obtain ⟨τ, P, RR, ok, X, S, H, A, O, G⟩ := h
  exact (rd_calls H hu).mono fun e w' ⟨he, hw⟩ => ⟨by rw [he, A.readE], hw⟩
theorem AnyP.wr (h : AnyP p q M m w F) (hu : id < 4294967296) (hv : v < 18446744073709551616) : Calls Tryz.prog 39 #[p.ptr, .int .u32 id, .int .u64 v] w fun e w' => e = .returned (.int .i64 (M.write id v).1) ∧ Led (AnyP p q (M.write id v).2 (m + 10)) F w w' := by
  obtain ⟨τ, P, RR, ok, X, S, H, A, O, G⟩ := h
  obtain ⟨e1, A2⟩ := A.writeE id hv
  refine (wr_calls S H hu hv).mono fun e w' ⟨he, hl⟩ => ⟨by rw [he, e1], hl.mono (fun F' h' => ⟨τ, P, RR, ok, _, S, h', A2, AM.okA_wr O, fun hq => ⟨?_, (G hq).2⟩⟩)⟩
  unfold PS.write
  split
  · exact (G hq).1
  · exact (G hq).1
theorem AnyP.fl (h : AnyP p q M m w F) (hm : m < 60000) (hu : id < 4294967296) : Calls Tryz.prog 40 #[p.ptr, .int .u32 id] w fun e w' => e = .returned (.int .i64 (M.flush id)) ∧ Led (AnyP p q M (m + 10)) F w w' := by
  obtain ⟨τ, P, RR, ok, X, S, H, A, O, G⟩ := h
  obtain ⟨e1, A2⟩ := A.flushE id
  refine (fl_calls S H hm hu).mono fun e w' ⟨he, hl⟩ => ⟨by rw [he, e1], hl.mono (fun F' h' => ⟨τ, P, RR, ok, _, S, h', A2, O, fun hq => ⟨?_, (G hq).2⟩⟩)⟩
  unfold PS.flush
  split
  · cases frm p.n X.f id with
    | none => exact (G hq).1
    | some k => show (X.clean k).2.sc = 0; rw [clean_sc]; exact (G hq).1
  · exact (G hq).1
theorem AnyP.de (h : AnyP p q M m w F) (hm : m < 60000) (hu : id < 4294967296) : Calls Tryz.prog 42 #[p.ptr, .int .u32 id] w fun e w' => e = .returned (.int .i64 (M.delete id).1) ∧ Led (AnyP p q (M.delete id).2 (m + 10)) F w w' := by
  obtain ⟨τ, P, RR, ok, X, S, H, A, O, G⟩ := h
  obtain ⟨e1, A2⟩ := A.deleteE (P := P) id
  refine (de_calls S H hm hu).mono fun e w' ⟨he, hl⟩ => ⟨by rw [he, e1], hl.mono (fun F' h' => ⟨τ, P, RR, ok, _, S, h', A2, AM.okA_de O, fun hq => ⟨?_, (G hq).2⟩⟩)⟩
  unfold PS.delete
  split
  · cases frm p.n X.f id with
    | none => exact (G hq).1
    | some k => dsimp only; split <;> exact (G hq).1
  · exact (G hq).1
theorem AnyP.hs (h : AnyP p q M m w F) (hu : id < 4294967296) : Calls Tryz.prog 31 #[p.ptr, .int .u32 id] w fun e w' => e = .returned (.bool (decide (id ∈ M.ids))) ∧ w = w' := by
  obtain ⟨τ, P, RR, ok, X, S, H, A, O, G⟩ := h
  exact (hs_calls H hu).mono fun e w' ⟨he, hw⟩ => ⟨by rw [he, A.has], hw⟩
end
end Go.Proofs.YtmpjnphnljakiaaGreatDoor
namespace Go.Proofs.YtmpjnphnljakiaaGreatDoor
open Go.RowKit Go.Maps
set_option linter.unusedVariables false
set_option linter.unusedSimpArgs false
section
variable {p : PP} {q : Bool} {M : AM} {m : Nat} {w w' : World} {F : Nat → Prop}
theorem AnyP.fro (h : AnyP p q M m w F) {G : Nat → Prop} (g : Fr G w w') (hG : ∀ i, F i → ¬ G i) (ht : ¬ G 0) : AnyP p q M m w' F := by
  obtain ⟨τ, P, RR, ok, X, S, H, A, O, K⟩ := h
  exact ⟨τ, P, RR, ok, X, S, ⟨H.1.fro S g hG ht, H.2⟩, A, O, K⟩
theorem AnyP.lt (h : AnyP p q M m w F) : ∀ i, F i → i < w.heap.size := by
  obtain ⟨τ, P, RR, ok, X, S, H, A, O, K⟩ := h
  exact H.1.lt S
end
end Go.Proofs.YtmpjnphnljakiaaGreatDoor

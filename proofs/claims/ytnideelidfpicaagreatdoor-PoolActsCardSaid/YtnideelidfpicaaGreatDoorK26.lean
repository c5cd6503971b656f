/-
  A Disk in memory: Alloc of a freed id.
-/
import Derived.Test.YtnideelidfpicaaGreatDoorK25
namespace Go.Proofs.YtnideelidfpicaaGreatDoor
open Go.RowKit Go.Maps
set_option linter.unusedVariables false

section
variable {α : Type} {lt : α → α → Bool}
theorem pop_heap (O : Ord lt) {a : Nat → α} {n : Nat} (h : IsHeap lt a (n + 1)) : IsHeap lt (popF lt a n) n := by
  unfold popF
  split
  · rename_i e; subst e; intro k h0 h1; omega
  · rename_i e
    refine (GapHeap.down O n (swp a 0 n) 0 (by omega) (by omega) ⟨fun k h0 h1 h2 h3 => ?_, fun k h0 h1 h2 h3 => (by omega)⟩).2.2 (.inl rfl)
    have hp : par k < n := by unfold par; omega
    have e1 : swp a 0 n k = a k := by unfold swp; rw [if_neg h2, if_neg (by omega)]
    have e2 : swp a 0 n (par k) = a (par k) := by unfold swp; rw [if_neg h3, if_neg (by omega)]
    rw [e1, e2]
    exact h k h0 (by omega)
theorem pop_swp {β : Type} {f : α → β} {a : Nat → α} {n : Nat} (hi : InjF f a (n + 1)) : InjF f (popF lt a n) n ∧ ∀ x, (∃ k, k < n ∧ popF lt a n k = x) ↔ ∃ k, k < n ∧ swp a 0 n k = x := by
  unfold popF
  split
  · rename_i e
    subst e
    exact ⟨fun k m h1 => (by omega), fun x => ⟨fun ⟨k, q, _⟩ => (by omega), fun ⟨k, q, _⟩ => (by omega)⟩⟩
  · rename_i e
    have hs := swp_inj (f := f) (a := a) (i := 0) (j := n) (n := n + 1) (by omega) (by omega) hi
    exact ⟨down_inj (f := f) lt n (swp a 0 n) 0 (by omega) (by omega) (fun k m h1 h2 => hs k m (by omega) (by omega)), fun x => down_mem lt x n (swp a 0 n) 0 (by omega) (by omega)⟩
end
theorem pop_mem {a : Nat → Nat} {n : Nat} (hi : InjF (fun x : Nat => x) a (n + 1)) (x : Nat) : (∃ k, k < n ∧ popF ltN a n k = x) ↔ (∃ k, k < n + 1 ∧ a k = x) ∧ ¬ x = a 0 := by
  rw [(pop_swp (lt := ltN) hi).2 x]
  constructor
  · rintro ⟨k, k1, k2⟩
    by_cases e : k = 0
    · subst e
      have e1 : swp a 0 n 0 = a n := by unfold swp; rw [if_pos rfl]
      rw [e1] at k2
      exact ⟨⟨n, by omega, k2⟩, fun q => by have := hi n 0 (by omega) (by omega) (by show a n = a 0; omega); omega⟩
    · have e1 : swp a 0 n k = a k := by unfold swp; rw [if_neg e, if_neg (by omega)]
      rw [e1] at k2
      exact ⟨⟨k, by omega, k2⟩, fun q => by have := hi k 0 (by omega) (by omega) (by show a k = a 0; omega); omega⟩
  · rintro ⟨⟨k, k1, k2⟩, k3⟩
    have hk0 : ¬ k = 0 := fun e => k3 (by rw [← k2, e])
    by_cases e : k = n
    · subst e
      exact ⟨0, by omega, by unfold swp; rw [if_pos rfl]; exact k2⟩
    · exact ⟨k, by omega, by unfold swp; rw [if_neg hk0, if_neg e]; exact k2⟩
/-- A freed id is had again. -/
def DS.reuse (s : DS) (id : Nat) : DS := { s with pg := upd s.pg (id - 1) (true, 0) }
section
variable {w w' : World} {db c mb nf : Nat} {s : DS} {pv fv : Value} {fh : Nat → Nat} {F : Nat → Prop}
/-- The least of the freed ids. -/
theorem DC.least (h : DC w db s c pv fv mb fh (nf + 1)) : 1 ≤ fh 0 ∧ fh 0 ≤ s.np ∧ (s.pg (fh 0 - 1)).1 = false ∧ ∀ x, 1 ≤ x → x ≤ s.np → (s.pg (x - 1)).1 = false → fh 0 ≤ x := by
  obtain ⟨h1, h2, h3⟩ := (h.fm (fh 0)).1 ⟨0, by omega, rfl⟩
  refine ⟨h1, h2, h3, fun x x1 x2 x3 => ?_⟩
  obtain ⟨k, k1, k2⟩ := (h.fm x).2 ⟨x1, x2, x3⟩
  have := h.hp.root ltN_ord k k1
  unfold ltN at this
  simp at this
  omega
theorem DC.reused (h : DC w db s c pv fv mb fh (nf + 1)) {w1 : World} (hF : ∀ i, F i ↔ i = db ∨ fv.ownBlock = some i) (hr : HRd db (dH s pv fv mb) w1 (popF ltN fh nf) nf F) (f1 : Fr F w w1) :
    w1.cell? ⟨db, 1, none⟩ = some pv ∧ db < w1.heap.size ∧ SlF w1 104 2 pv s.np (pgF s.pg) ∧
    Hid (∀ w2, SlF w2 104 2 pv s.np (pgF (upd s.pg (fh 0 - 1) (true, 0))) → Fr (fun i => pv.ownBlock = some i) w1 w2 → (∃ fv', DC w2 db (s.reuse (fh 0)) c pv fv' mb (popF ltN fh nf) nf ∧ ∀ b, fv'.ownBlock = some b → fv.ownBlock = some b) ∧ Fr (FD db pv fv mb) w w2) := by
  obtain ⟨fv', hb, hsl, hd, hn, hFe⟩ := hr
  rw [dH_fv] at hb
  obtain ⟨l1, l2, l3, l4⟩ := h.least
  have ho : ∀ b, fv'.ownBlock = some b → fv.ownBlock = some b := by
    intro b q
    rcases (hF b).1 ((hFe b).2 (.inr q)) with e | e
    · exact absurd e (hd b q)
    · exact e
  have hs1 : SlF w1 104 2 pv s.np (pgF s.pg) := h.po.fr f1 (fun b q e => by rcases (hF b).1 e with e | e; exact (h.n1 b q).1 e; exact (h.n1 b q).2.2 e)
  refine ⟨hb.cell (i := 1) (by omega), hb.lt, hs1, ?_⟩
  intro w2 hs f2
  have n1' : ∀ b, pv.ownBlock = some b → ¬ b = db ∧ ¬ b = mb ∧ ¬ fv'.ownBlock = some b := fun b q => ⟨(h.n1 b q).1, (h.n1 b q).2.1, fun q2 => (h.n1 b q).2.2 (ho b q2)⟩
  have hi := (pop_swp (lt := ltN) h.inj).1
  have hfm : ∀ x, (∃ k, k < nf ∧ popF ltN fh nf k = x) ↔ 1 ≤ x ∧ x ≤ s.np ∧ (upd s.pg (fh 0 - 1) (true, 0) (x - 1)).1 = false := by
    intro x
    rw [pop_mem h.inj x, h.fm x]
    by_cases e : x = fh 0
    · subst e
      rw [upd_same]
      exact ⟨fun q => absurd rfl q.2, fun q => absurd q.2.2 (by simp)⟩
    · constructor
      · rintro ⟨q, _⟩
        rw [upd_other _ _ (by omega)]; exact q
      · intro q
        rw [upd_other _ _ (by omega)] at q; exact ⟨q, e⟩
  refine ⟨⟨fv', ⟨hb.fr f2 (fun e => (h.n1 db e).1 rfl), hs, hsl.fr f2 (fun b q e => (n1' b e).2.2 q), (h.mp.fr f1 (fun e => by rcases (hF mb).1 e with e | e; exact h.n3 e; exact (h.n2 mb e).2 rfl)).fr f2 (fun e => (h.n1 mb e).2.1 rfl), n1', fun b q => h.n2 b (ho b q), h.n3, h.r1, h.r2, pop_heap ltN_ord h.hp, hi, by show nf ≤ s.np; have := h.nn; omega, hfm, h.ct, h.lr, h.fb⟩, ho⟩, ?_⟩
  exact (f1.mono (fun i q => by rcases (hF i).1 q with q | q; exact .inl q; exact .inr (.inr (.inr q)))).trans f2 (fun i q => .inl (.inr (.inr (.inl q))))
set_option maxHeartbeats 2000000 in
theorem dk_alloc_pop (h : DC w db s c pv fv mb fh (nf + 1)) : Calls Tryz.prog 51 #[.pointer (some ⟨db, 0, none⟩)] w fun e w' => e = .returned (.tuple #[.int .u32 (fh 0 : Nat), .int .i64 0]) ∧
    (∃ fv', DC w' db (s.reuse (fh 0)) c pv fv' mb (popF ltN fh nf) nf ∧ ∀ b, fv'.ownBlock = some b → fv.ownBlock = some b) ∧ Fr (FD db pv fv mb) w w' := by
  have c2 : w.cell? ⟨db, 2, none⟩ = some fv := h.ce 2 (by omega)
  obtain ⟨l1, l2, l3, l4⟩ := h.least
  have hsm := h.small
  have hnr := h.r2
  have hrr := h.r1
  have lb := h.hd.lt
  have HP : Hid (Calls Tryz.prog 74 #[.iface 118 (.pointer (some ⟨db, 2, none⟩))] w fun e w' => e = .returned (encU (fh 0)) ∧ HRd db (dH s pv fv mb) w' (popF ltN fh nf) nf (fun i => i = db ∨ fv.ownBlock = some i) ∧ Fr (fun i => i = db ∨ fv.ownBlock = some i) w w') := heap_pop (idh_sys db (dH s pv fv mb)) (h.heap (Fr.refl _ w))
  have K : Hid (∀ w1, HRd db (dH s pv fv mb) w1 (popF ltN fh nf) nf (fun i => i = db ∨ fv.ownBlock = some i) → Fr (fun i => i = db ∨ fv.ownBlock = some i) w w1 → ∃ g cap, pv = .slice (some ⟨g, 0, none⟩) s.np cap ∧ s.np ≤ cap ∧ cap ≤ 9223372036854775807 ∧ ¬ g = db ∧ w1.cell? ⟨db, 1, none⟩ = some pv ∧ db < w1.heap.size ∧ g < w1.heap.size ∧ (∀ i, w1.frozen? ⟨g, i, none⟩ = false) ∧ w1.cell? ⟨g, (fh 0 - 1) * 2, none⟩ = some (.bool (s.pg (fh 0 - 1)).1) ∧ w1.cell? ⟨g, (fh 0 - 1) * 2 + 1, none⟩ = some (.int .u64 (s.pg (fh 0 - 1)).2) ∧
      Hid ((∃ fv', DC ((w1.setCell ⟨g, (fh 0 - 1) * 2, none⟩ (.bool true)).setCell ⟨g, (fh 0 - 1) * 2 + 1, none⟩ (.int .u64 0)) db (s.reuse (fh 0)) c pv fv' mb (popF ltN fh nf) nf ∧ ∀ b, fv'.ownBlock = some b → fv.ownBlock = some b) ∧ Fr (FD db pv fv mb) w ((w1.setCell ⟨g, (fh 0 - 1) * 2, none⟩ (.bool true)).setCell ⟨g, (fh 0 - 1) * 2 + 1, none⟩ (.int .u64 0)))) := by
    intro w1 hr f1
    obtain ⟨r1, r2, r3, r4⟩ := h.reused (fun i => Iff.rfl) hr f1
    obtain ⟨g, cap, p1, p2, p3, p4, p5, p6⟩ := r3.at (by omega)
    refine ⟨g, cap, p1, p2, by unfold maxLen at p3; omega, (h.n1 g (by rw [p1]; rfl)).1, r1, r2, p4, p5, by rw [p6 _ (by omega), pgF_0], by rw [p6 _ (by omega), pgF_1], ?_⟩
    subst p1
    have hs := (r3.set (i := (fh 0 - 1) * 2) (by omega) (.bool true)).set (i := (fh 0 - 1) * 2 + 1) (by omega) (.int .u64 (0 : Nat))
    rw [pgF_set] at hs
    exact r4.out _ hs ((((Fr.refl (fun i => i = g) w1).setCell (p := ⟨g, (fh 0 - 1) * 2, none⟩) (.inl rfl) _).setCell (p := ⟨g, (fh 0 - 1) * 2 + 1, none⟩) (.inl rfl) _).mono (fun i q => by rw [q]; rfl))
  obtain ⟨fa, fc, rfl, _, _⟩ := h.fo.shape
  clear h l3 l4
  unfold encU at HP
  have hta : ∀ t : Int, ∀ W : World, (Instr.typeAssert (.iface 43 (.int .u32 t)) 20 43 false).run Tryz.prog W = .ok (.int .u32 t) W := fun t W => by kernel_rfl
  obtain ⟨k, hk⟩ : ∃ k, fh 0 = k + 1 := ⟨fh 0 - 1, by omega⟩
  rw [hk] at K HP l1 l2 ⊢
  rw [show k + 1 - 1 = k from by omega] at K
  have hks : ((k + 1 : Nat) : Int) - 1 = (k : Int) := by omega
  have hkn : k < s.np := by omega
  have hta2 := hta ((k : Int) + 1)
  have hta3 := hta ((k + 1 : Nat) : Int)
  clear hta hk
  have hnf : 0 < ((nf + 1 : Nat) : Int) := by omega
  go_enter Tryz.func51, Tryz.ntmps51
  go_wp2_with fail
  refine HP.out.mono ?_
  rintro e w1 ⟨rfl, hr, f1⟩
  obtain ⟨g, cap, hpv, e1, e2, e3, e4, e5, e6, e7, e8, e9, KK⟩ := K.out w1 hr f1
  have HPV := Lib.hid hpv
  rw [hpv] at e4
  have f70 := e7 (k * 2)
  have f71 := e7 (k * 2 + 1)
  clear hr f1 hpv K e7
  go_wp2
  go_returns
  exact ⟨rfl, KK.out⟩
end
end Go.Proofs.YtnideelidfpicaaGreatDoor

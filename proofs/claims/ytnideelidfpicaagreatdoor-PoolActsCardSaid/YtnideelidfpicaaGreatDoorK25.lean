/-
  A Disk in memory: Free; what is not there.
-/
import Derived.Test.YtnideelidfpicaaGreatDoorK24
namespace Go.Proofs.YtnideelidfpicaaGreatDoor
open Go.RowKit Go.Maps
set_option linter.unusedVariables false

/-- Numbers without repeats below N: no more than N. -/
theorem pigeon : ∀ (N n : Nat) (f : Nat → Nat), InjF (fun x : Nat => x) f n → (∀ k, k < n → f k < N) → n ≤ N := by
  intro N
  induction N with
  | zero =>
    intro n f hi hb
    rcases Nat.eq_zero_or_pos n with e | e
    · omega
    · have := hb 0 e; omega
  | succ N ih =>
    intro n f hi hb
    by_cases hk : ∃ k, k < n ∧ f k = N
    · obtain ⟨k, k1, k2⟩ := hk
      obtain ⟨m, rfl⟩ : ∃ m, n = m + 1 := ⟨n - 1, by omega⟩
      have hs := swp_inj (f := fun x : Nat => x) (a := f) (i := k) (j := m) k1 (by omega) hi
      have := ih m (swp f k m) (fun a b ha hb' e => hs a b (by omega) (by omega) e) (fun j hj => by
        show (if j = k then f m else if j = m then f k else f j) < N
        split
        · rename_i e
          have h1 := hb m (by omega)
          have h2 : ¬ f m = N := fun q => by have := hi m k (by omega) k1 (by show f m = f k; omega); omega
          omega
        · rename_i e
          rw [if_neg (by omega)]
          have h1 := hb j (by omega)
          have h2 : ¬ f j = N := fun q => by have := hi j k (by omega) k1 (by show f j = f k; omega); exact e this
          omega)
      omega
    · have := ih n f hi (fun k q => by have h1 := hb k q; have h2 : ¬ f k = N := fun e => hk ⟨k, q, e⟩; omega)
      omega
theorem push_up {α : Type} (lt : α → α → Bool) {a : Nat → α} {n : Nat} (t : α) (h : IsHeap lt a n) : UpHeap lt (upd a n t) (n + 1) n := by
  refine ⟨fun k h0 h1 h2 => ?_, fun k h0 h1 h2 h3 => ?_⟩
  · have hp : par k < n := by unfold par; omega
    rw [upd_other _ _ h2, upd_other _ _ (by omega)]
    exact h k h0 (by omega)
  · exfalso; unfold par at h2; omega
theorem dH_fv (s : DS) (pv fv fv' : Value) (mb : Nat) : upd (dH s pv fv mb) 2 fv' = dH s pv fv' mb := by
  funext j
  match j with
  | 0 => rfl
  | 1 => rfl
  | 2 => rfl
  | 3 => rfl
  | 4 => rfl
  | 5 => rfl
  | 6 => rfl
  | 7 => rfl
  | j + 8 => simp [upd, dH]
def DS.gone (s : DS) (id : Nat) : DS := { s with pg := upd s.pg (id - 1) (false, 0) }

section
variable {w w' : World} {db c mb nf : Nat} {s : DS} {pv fv : Value} {fh : Nat → Nat} {F : Nat → Prop}
theorem DC.small (h : DC w db s c pv fv mb fh nf) : nf ≤ 65535 := by
  have := h.nn; have := h.r1; have := h.r2; omega
/-- A page's two cells are written; what is freed isn't told of it yet. -/
theorem DC.page2 {g cap : Nat} (h : DC w db s c pv fv mb fh nf) (hpv : pv = .slice (some ⟨g, 0, none⟩) s.np cap) {k : Nat} (hk : k < s.np) (b : Bool) (v : Nat) {w1 : World} (hw : w1 = (w.setCell ⟨g, k * 2, none⟩ (.bool b)).setCell ⟨g, k * 2 + 1, none⟩ (.int .u64 v)) :
    SlF w1 104 2 pv s.np (pgF (upd s.pg k (b, v))) ∧ Fr (fun i => pv.ownBlock = some i) w w1 := by
  subst hw
  subst hpv
  have hs := (h.po.set (i := k * 2) (by omega) (.bool b)).set (i := k * 2 + 1) (by omega) (.int .u64 v)
  rw [pgF_set] at hs
  exact ⟨hs, (((Fr.refl (fun i => i = g) w).setCell (p := ⟨g, k * 2, none⟩) (.inl rfl) _).setCell (p := ⟨g, k * 2 + 1, none⟩) (.inl rfl) _).mono (fun i q => by rw [q]; rfl)⟩
/-- An id more in the heap of freed ones. -/
theorem DC.freed (h : DC w db s c pv fv mb fh nf) {id : Nat} (hh : s.has id = true) {w1 w2 : World} (hs : SlF w1 104 2 pv s.np (pgF (upd s.pg (id - 1) (false, 0)))) (f1 : Fr (fun i => pv.ownBlock = some i) w w1) {F F' : Nat → Prop} (hF : ∀ i, F i ↔ i = db ∨ fv.ownBlock = some i)
    (hr : HRd db (dH s pv fv mb) w2 (upF ltN (upd fh nf id) nf) (nf + 1) F') (f2 : Fr F w1 w2) (hF' : ∀ i, F' i → F i ∨ w1.heap.size ≤ i) :
    (∃ fv', DC w2 db (s.gone id) c pv fv' mb (upF ltN (upd fh nf id) nf) (nf + 1) ∧ ∀ b, fv'.ownBlock = some b → fv.ownBlock = some b ∨ w.heap.size ≤ b) ∧ Fr (FD db pv fv mb) w w2 := by
  obtain ⟨fv', hb, hsl, hd, hn, hFe⟩ := hr
  rw [dH_fv] at hb
  have hid : 1 ≤ id ∧ id ≤ s.np ∧ (s.pg (id - 1)).1 = true := by unfold DS.has at hh; simp at hh; exact ⟨hh.1.1, hh.1.2, hh.2⟩
  have ho : ∀ b, fv'.ownBlock = some b → fv.ownBlock = some b ∨ w.heap.size ≤ b := by
    intro b q
    rcases hF' b ((hFe b).2 (.inr q)) with e | e
    · rcases (hF b).1 e with e | e
      · exact absurd e (hd b q)
      · exact .inl e
    · exact .inr (Nat.le_trans f1.size e)
  have hl := h.hd.lt
  have hm := h.mp.lt
  have hni : ∀ k, k < nf → ¬ fh k = id := by
    intro k hk e
    have := (h.fm id).1 ⟨k, hk, e⟩
    rw [hid.2.2] at this
    exact absurd this.2.2 (by simp)
  have hmem : ∀ x, (∃ k, k < nf + 1 ∧ upF ltN (upd fh nf id) nf k = x) ↔ x = id ∨ ∃ k, k < nf ∧ fh k = x := by
    intro x
    rw [up_mem ltN x (n := nf + 1) (upd fh nf id) nf (by omega)]
    constructor
    · rintro ⟨k, k1, k2⟩
      by_cases e : k = nf
      · subst e; rw [upd_same] at k2; exact .inl k2.symm
      · rw [upd_other _ _ e] at k2; exact .inr ⟨k, by omega, k2⟩
    · rintro (e | ⟨k, k1, k2⟩)
      · exact ⟨nf, by omega, by rw [upd_same, e]⟩
      · exact ⟨k, by omega, by rw [upd_other _ _ (by omega)]; exact k2⟩
  have hinj : InjF (fun x : Nat => x) (upF ltN (upd fh nf id) nf) (nf + 1) := by
    refine up_inj ltN (upd fh nf id) nf (by omega) ?_
    intro a b ha hb e
    dsimp only at e
    by_cases e1 : a = nf
    · by_cases e2 : b = nf
      · omega
      · rw [e1, upd_same, upd_other _ _ e2] at e
        exact absurd e.symm (hni b (by omega))
    · by_cases e2 : b = nf
      · rw [e2, upd_same, upd_other _ _ e1] at e
        exact absurd e (hni a (by omega))
      · rw [upd_other _ _ e1, upd_other _ _ e2] at e
        exact h.inj a b (by omega) (by omega) e
  have hfm : ∀ x, (∃ k, k < nf + 1 ∧ upF ltN (upd fh nf id) nf k = x) ↔ 1 ≤ x ∧ x ≤ s.np ∧ (upd s.pg (id - 1) (false, 0) (x - 1)).1 = false := by
    intro x
    rw [hmem x, h.fm x]
    by_cases e : x = id
    · subst e
      rw [upd_same]
      exact ⟨fun _ => ⟨hid.1, hid.2.1, rfl⟩, fun _ => .inl rfl⟩
    · constructor
      · rintro (q | q)
        · exact absurd q e
        · rw [upd_other _ _ (by omega)]; exact q
      · intro q
        rw [upd_other _ _ (by omega)] at q; exact .inr q
  have hnn : nf + 1 ≤ s.np := by
    refine pigeon s.np (nf + 1) (fun k => upF ltN (upd fh nf id) nf k - 1) (fun a b ha hb e => ?_) (fun k hk => ?_)
    · have e1 := (hfm _).1 ⟨a, ha, rfl⟩
      have e2 := (hfm _).1 ⟨b, hb, rfl⟩
      exact hinj a b ha hb (by show upF ltN (upd fh nf id) nf a = upF ltN (upd fh nf id) nf b; have e3 : upF ltN (upd fh nf id) nf a - 1 = upF ltN (upd fh nf id) nf b - 1 := e; omega)
    · have e1 := (hfm _).1 ⟨k, hk, rfl⟩
      show upF ltN (upd fh nf id) nf k - 1 < s.np; omega
  have f12 : Fr (FD db pv fv mb) w w2 := (f1.mono (fun i q => .inr (.inr (.inl q)))).trans f2 (fun i q => .inl (by rcases (hF i).1 q with q | q; exact .inl q; exact .inr (.inr (.inr q))))
  have n1' : ∀ b, pv.ownBlock = some b → ¬ b = db ∧ ¬ b = mb ∧ ¬ fv'.ownBlock = some b := by
    intro b q
    refine ⟨(h.n1 b q).1, (h.n1 b q).2.1, fun q2 => ?_⟩
    rcases ho b q2 with e | e
    · exact (h.n1 b q).2.2 e
    · have := h.po.lt b q; omega
  have n2' : ∀ b, fv'.ownBlock = some b → ¬ b = db ∧ ¬ b = mb := by
    intro b q
    rcases ho b q with e | e
    · exact h.n2 b e
    · exact ⟨by omega, by omega⟩
  exact ⟨⟨fv', ⟨hb, hs.fr f2 (fun b q e => by rcases (hF b).1 e with e | e; exact (h.n1 b q).1 e; exact (h.n1 b q).2.2 e), hsl, (h.mp.fr f1 (fun e => (h.n1 mb e).2.1 rfl)).fr f2 (fun e => by rcases (hF mb).1 e with e | e; exact h.n3 e; exact (h.n2 mb e).2 rfl), n1', n2', h.n3, h.r1, h.r2, (push_up ltN id h.hp).up ltN_ord _ nf (by omega), hinj, hnn, hfm, h.ct, h.lr, h.fb⟩, ho⟩, f12⟩
theorem DC.heap (h : DC w db s c pv fv mb fh nf) {w1 : World} (f1 : Fr (fun i => pv.ownBlock = some i) w w1) : HRd db (dH s pv fv mb) w1 fh nf (fun i => i = db ∨ fv.ownBlock = some i) := by
  refine ⟨fv, ?_, h.fo.fr f1 (fun b q e => (h.n1 b e).2.2 q), fun b q => (h.n2 b q).1, by have := h.small; omega, fun i => Iff.rfl⟩
  rw [dH_fv]
  exact h.hd.fr f1 (fun e => (h.n1 db e).1 rfl)
set_option maxHeartbeats 1000000 in
theorem dk_free_no (h : DC w db s c pv fv mb fh nf) {id : Nat} (hu : isU32 id) (hh : s.has id = false) : Calls Tryz.prog 53 #[.pointer (some ⟨db, 0, none⟩), .int .u32 id] w fun e w' => e = .returned (.int .i64 3) ∧ w = w' := by
  have HA := dk_has h hu
  rw [hh] at HA
  have HA2 := Lib.hid HA
  clear h HA hh hu
  go_enter Tryz.func53, Tryz.ntmps53
  go_wp2_with fail
  refine HA2.out.mono ?_
  rintro e w1 ⟨rfl, rfl⟩
  go_wp2
  go_returns
  exact ⟨rfl, rfl⟩
set_option maxHeartbeats 2000000 in
theorem dk_free_yes (h : DC w db s c pv fv mb fh nf) {id : Nat} (hu : isU32 id) (hh : s.has id = true) : Calls Tryz.prog 53 #[.pointer (some ⟨db, 0, none⟩), .int .u32 id] w fun e w' => e = .returned (.int .i64 0) ∧
    (∃ fv', DC w' db (s.gone id) c pv fv' mb (upF ltN (upd fh nf id) nf) (nf + 1) ∧ ∀ b, fv'.ownBlock = some b → fv.ownBlock = some b ∨ w.heap.size ≤ b) ∧ Fr (FD db pv fv mb) w w' := by
  have HA := dk_has h hu
  rw [hh] at HA
  have HA2 := Lib.hid HA
  have hid : 1 ≤ id ∧ id ≤ s.np ∧ (s.pg (id - 1)).1 = true := by unfold DS.has at hh; simp at hh; exact ⟨hh.1.1, hh.1.2, hh.2⟩
  obtain ⟨g, cap, p1, p2, p3, p4, p5, p6⟩ := h.po.at (by omega)
  have c1 : w.cell? ⟨db, 1, none⟩ = some pv := h.ce 1 (by omega)
  have lb := h.hd.lt
  have hgd : ¬ g = db := (h.n1 g (by rw [p1]; rfl)).1
  have hgd2 : ¬ db = g := fun e => hgd e.symm
  have HS := h.small
  have K : Hid (∀ w1, w1 = (w.setCell ⟨g, (id - 1) * 2, none⟩ (.bool false)).setCell ⟨g, (id - 1) * 2 + 1, none⟩ (.int .u64 0) → Calls Tryz.prog 82 #[.iface 118 (.pointer (some ⟨db, 2, none⟩)), .iface 43 (.int .u32 id)] w1 fun e w' => e = .returned (.tuple #[]) ∧ (∃ fv', DC w' db (s.gone id) c pv fv' mb (upF ltN (upd fh nf id) nf) (nf + 1) ∧ ∀ b, fv'.ownBlock = some b → fv.ownBlock = some b ∨ w.heap.size ≤ b) ∧ Fr (FD db pv fv mb) w w') := by
    intro w1 hw
    obtain ⟨q1, q2⟩ := h.page2 p1 (k := id - 1) (by omega) false 0 hw
    have hp := heap_push (idh_sys db (dH s pv fv mb)) (h.heap q2) (t := id) (by show nf < 900000; omega)
    refine hp.mono ?_
    rintro e w2 ⟨rfl, F', h1, h2, h3⟩
    exact ⟨rfl, h.freed hh q1 q2 (fun i => Iff.rfl) h1 h2 h3⟩
  have cf0 := p5 ((id - 1) * 2)
  have cf1 := p5 ((id - 1) * 2 + 1)
  have cg0 := p6 ((id - 1) * 2) (by omega)
  have cg1 := p6 ((id - 1) * 2 + 1) (by omega)
  rw [p1] at c1
  unfold maxLen at p3
  obtain ⟨k, rfl⟩ : ∃ k, id = k + 1 := ⟨id - 1, by omega⟩
  rw [show k + 1 - 1 = k from by omega] at *
  rw [pgF_0] at cg0
  rw [pgF_1] at cg1
  have hks : ((k + 1 : Nat) : Int) - 1 = (k : Int) := by omega
  have hkn : k < s.np := by omega
  have hnr := h.r2
  have hrr := h.r1
  clear h HA hh hu hid p5 p6 p1
  go_enter Tryz.func53, Tryz.ntmps53
  go_wp2_with fail
  refine HA2.out.mono ?_
  rintro e w1 ⟨rfl, rfl⟩
  go_wp2_with fail
  refine (K.out _ (by rfl)).mono ?_
  rintro e w2 ⟨rfl, h2⟩
  have H2 := Lib.hid h2
  clear h2
  go_wp2
  go_returns
  exact ⟨rfl, H2.out⟩
end
end Go.Proofs.YtnideelidfpicaaGreatDoor

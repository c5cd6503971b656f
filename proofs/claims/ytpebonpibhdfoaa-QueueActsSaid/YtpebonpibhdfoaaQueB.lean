/-
  queue's things in memory, as container/heap is told of them: Len, Less, Swap.
-/
import Derived.Test.YtpebonpibhdfoaaQueA
import Derived.Test.YtpebonpibhdfoaaMapE
import Derived.Test.YtpebonpibhdfoaaHeapY
import Derived.Test.YtpebonpibhdfoaaMeth
import Derived.RegionTactic
import Derived.Deep.RegionLaw
import Derived.Deep.QuietTactic
import Derived.BigQuiet
namespace Go.Proofs.Ytpebonpibhdfoaa
open Go.RowKit Go.Maps
set_option linter.unusedVariables false

def thOk (t : Th) : Prop := i64 t.x ∧ i64 t.a ∧ i64 t.b
def thF (a : Nat → Th) (i : Nat) : Value := if i % 3 = 0 then .int .i64 (a (i / 3)).x else if i % 3 = 1 then .int .i64 (a (i / 3)).a else .int .i64 (a (i / 3)).b
theorem thF_0 (a : Nat → Th) (k : Nat) : thF a (k * 3) = .int .i64 (a k).x := by
  unfold thF; rw [if_pos (by omega), show k * 3 / 3 = k from by omega]
theorem thF_1 (a : Nat → Th) (k : Nat) : thF a (k * 3 + 1) = .int .i64 (a k).a := by
  unfold thF; rw [if_neg (by omega), if_pos (by omega), show (k * 3 + 1) / 3 = k from by omega]
theorem thF_2 (a : Nat → Th) (k : Nat) : thF a (k * 3 + 2) = .int .i64 (a k).b := by
  unfold thF; rw [if_neg (by omega), if_neg (by omega), show (k * 3 + 2) / 3 = k from by omega]
theorem thF_set (a : Nat → Th) (k : Nat) (t : Th) : upd (upd (upd (thF a) (k * 3) (.int .i64 t.x)) (k * 3 + 1) (.int .i64 t.a)) (k * 3 + 2) (.int .i64 t.b) = thF (upd a k t) := by
  funext j
  by_cases e2 : j = k * 3 + 2
  · subst e2; rw [upd_same, thF_2, upd_same]
  · rw [upd_other _ _ e2]
    by_cases e1 : j = k * 3 + 1
    · subst e1; rw [upd_same, thF_1, upd_same]
    · rw [upd_other _ _ e1]
      by_cases e0 : j = k * 3
      · subst e0; rw [upd_same, thF_0, upd_same]
      · rw [upd_other _ _ e0]
        unfold thF
        rw [upd_other _ _ (by omega : ¬ j / 3 = k)]
theorem swp_upd {α : Type} (a : Nat → α) (i j : Nat) : upd (upd a i (a j)) j (a i) = swp a i j := by
  funext k
  unfold upd swp
  by_cases e1 : k = j
  · subst e1
    by_cases e2 : k = i
    · rw [if_pos rfl, if_pos e2, e2]
    · rw [if_pos rfl, if_neg e2, if_pos rfl]
  · rw [if_neg e1]
    by_cases e2 : k = i
    · rw [if_pos e2, if_pos e2]
    · rw [if_neg e2, if_neg e2, if_neg e1]
theorem SlF.snoc3 {w : World} {e : TypeId} {v : Value} {c : Nat → Value} {k : Nat} {u1 u2 u3 : Value} (h : w.ownsRow 0 e 3 v (k + 1) ((List.range (k * 3)).map c ++ [u1, u2, u3])) : SlF w e 3 v (k + 1) (upd (upd (upd c (k * 3) u1) (k * 3 + 1) u2) (k * 3 + 2) u3) := by
  unfold SlF
  rw [show (k + 1) * 3 = k * 3 + 2 + 1 from by omega, ← range_snoc, ← range_snoc, ← range_snoc, List.append_assoc, List.append_assoc]
  exact h
theorem MIq : MI Try.prog 48 3 3 .i64 .i64 := ⟨Try.underlying48, Try.underlying3, Try.underlying3, fun w => Try.zeroValue3 w⟩
/-- The map of places: none yet, or one in a block of its own. -/
def MQ (w : World) (mo : Option Nat) (n : Nat) (g : Int → Option Int) : Prop := match mo with
  | none => n = 0 ∧ ∀ x, g x = none
  | some mb => MpN Try.prog 3 3 .i64 .i64 w mb n g
def qH (lv : Value) (mo : Option Nat) (i : Nat) : Value := if i = 0 then lv else .map mo
structure QC (w : World) (qb : Nat) (a : Nat → Th) (n : Nat) (lv : Value) (mo : Option Nat) (g : Int → Option Int) : Prop where
  hd : Blk w qb 2 (qH lv mo)
  li : SlF w 54 3 lv n (thF a)
  mp : MQ w mo n g
  pl : ∀ x k, g x = some k ↔ ∃ j : Nat, k = (j : Int) ∧ j < n ∧ (a j).x = x
  ok : ∀ k, k < n → thOk (a k)
  n1 : ∀ b, lv.ownBlock = some b → ¬ b = qb ∧ ¬ mo = some b
  n2 : ∀ b, mo = some b → ¬ b = qb
  sm : n < 1000000
def FQ (qb : Nat) (lv : Value) (mo : Option Nat) : Nat → Prop := fun i => i = qb ∨ lv.ownBlock = some i ∨ mo = some i
def HRq (qb : Nat) : World → (Nat → Th) → Nat → (Nat → Prop) → Prop := fun w a n F => ∃ lv mo g, QC w qb a n lv mo g ∧ ∀ i, F i ↔ FQ qb lv mo i

section
variable {w w' : World} {qb n : Nat} {a : Nat → Th} {lv : Value} {mo : Option Nat} {g : Int → Option Int} {F : Nat → Prop}
theorem MQ.fr (h : MQ w mo n g) {G : Nat → Prop} (f : Fr G w w') (hG : ∀ b, mo = some b → ¬ G b) : MQ w' mo n g := by
  cases mo with
  | none => exact h
  | some mb => exact MpN.fr h f (hG mb rfl)
theorem MQ.lt (h : MQ w mo n g) : ∀ b, mo = some b → b < w.heap.size := by
  rintro b rfl
  exact MpN.lt h
theorem QC.fr (h : QC w qb a n lv mo g) {G : Nat → Prop} (f : Fr G w w') (hG : ∀ i, FQ qb lv mo i → ¬ G i) : QC w' qb a n lv mo g :=
  ⟨h.hd.fr f (hG _ (.inl rfl)), h.li.fr f (fun b q => hG b (.inr (.inl q))), h.mp.fr f (fun b q => hG b (.inr (.inr q))), h.pl, h.ok, h.n1, h.n2, h.sm⟩
theorem QC.fr0 (h : QC w qb a n lv mo g) (f : Fr NoF w w') : QC w' qb a n lv mo g := h.fr f (fun _ _ q => q)
theorem QC.lt (h : QC w qb a n lv mo g) : ∀ i, FQ qb lv mo i → i < w.heap.size := by
  rintro i (rfl | q | q)
  · exact h.hd.lt
  · exact h.li.lt i q
  · exact h.mp.lt i q
theorem QC.inj (h : QC w qb a n lv mo g) : InjF (fun t : Th => t.x) a n := by
  intro k m hk hm e
  have h1 := (h.pl (a k).x (k : Int)).2 ⟨k, rfl, hk, rfl⟩
  have h2 := (h.pl (a k).x (m : Int)).2 ⟨m, rfl, hm, e.symm⟩
  rw [h1] at h2
  simp at h2
  omega
theorem QC.c0 (h : QC w qb a n lv mo g) : w.cell? ⟨qb, 0, none⟩ = some lv := h.hd.cell (i := 0) (by omega)
theorem QC.c1 (h : QC w qb a n lv mo g) : w.cell? ⟨qb, 1, none⟩ = some (.map mo) := h.hd.cell (i := 1) (by omega)
theorem QC.el (h : QC w qb a n lv mo g) {i : Nat} (hi : i < n) : ∃ gb cap, lv = .slice (some ⟨gb, 0, none⟩) n cap ∧ n ≤ cap ∧ cap ≤ 9223372036854775807 ∧ gb < w.heap.size ∧ (∀ j, w.frozen? ⟨gb, j, none⟩ = false) ∧ w.cell? ⟨gb, i * 3, none⟩ = some (.int .i64 (a i).x) ∧ w.cell? ⟨gb, i * 3 + 1, none⟩ = some (.int .i64 (a i).a) ∧ w.cell? ⟨gb, i * 3 + 2, none⟩ = some (.int .i64 (a i).b) := by
  obtain ⟨gb, cap, e, h1, h2, h3, h4, h5⟩ := h.li.at (by omega)
  exact ⟨gb, cap, e, h1, by unfold maxLen at h2; omega, h3, h4, by rw [h5 _ (by omega), thF_0], by rw [h5 _ (by omega), thF_1], by rw [h5 _ (by omega), thF_2]⟩
theorem q_len (h : QC w qb a n lv mo g) : Calls Try.prog 22 #[.pointer (some ⟨qb, 0, none⟩)] w fun e w' => e = .returned (.int .i64 (n : Nat)) ∧ w = w' := by
  have c0 := h.c0
  have lb := h.hd.lt
  obtain ⟨va, vc, rfl, _, _⟩ := h.li.shape
  clear h
  go_enter Try.func22, Try.ntmps22
  go_wp2
  go_returns
  exact ⟨rfl, rfl⟩
set_option maxHeartbeats 2000000 in
theorem q_less (h : QC w qb a n lv mo g) {i j : Nat} (hi : i < n) (hj : j < n) : Calls Try.prog 68 #[.pointer (some ⟨qb, 0, none⟩), .int .i64 i, .int .i64 j] w fun e w' => e = .returned (.bool (ltT (a i) (a j))) ∧ Fr NoF w w' := by
  have hn := h.sm
  have HC : Hid (∀ W, Fr NoF w W → W.cell? ⟨qb, 0, none⟩ = some lv) := fun W f => (h.fr0 f).c0
  obtain ⟨gb, cap, rfl, h1, h2, h3, h4, i0, i1, i2⟩ := h.el hi
  obtain ⟨gb', cap', e, _, _, _, _, j0, j1, j2⟩ := h.el hj
  simp only [Value.slice.injEq, Option.some.injEq, Addr.mk.injEq] at e
  obtain ⟨⟨rfl, _⟩, _, rfl⟩ := e
  have HCL : Hid (∀ W, Fr NoF w W → W.cell? ⟨gb, i * 3, none⟩ = some (.int .i64 (a i).x) ∧ W.cell? ⟨gb, i * 3 + 1, none⟩ = some (.int .i64 (a i).a) ∧ W.cell? ⟨gb, i * 3 + 2, none⟩ = some (.int .i64 (a i).b) ∧ W.cell? ⟨gb, j * 3, none⟩ = some (.int .i64 (a j).x) ∧ W.cell? ⟨gb, j * 3 + 1, none⟩ = some (.int .i64 (a j).a) ∧ W.cell? ⟨gb, j * 3 + 2, none⟩ = some (.int .i64 (a j).b) ∧ W.cell? ⟨qb, 0, none⟩ = some (.slice (some ⟨gb, 0, none⟩) n cap)) := by
    intro W f
    refine ⟨?_, ?_, ?_, ?_, ?_, ?_, HC.out W f⟩
    · rw [f.cell (p := ⟨gb, _, none⟩) h3 id]; exact i0
    · rw [f.cell (p := ⟨gb, _, none⟩) h3 id]; exact i1
    · rw [f.cell (p := ⟨gb, _, none⟩) h3 id]; exact i2
    · rw [f.cell (p := ⟨gb, _, none⟩) h3 id]; exact j0
    · rw [f.cell (p := ⟨gb, _, none⟩) h3 id]; exact j1
    · rw [f.cell (p := ⟨gb, _, none⟩) h3 id]; exact j2
  have HCM := Lib.hid (fun W => compare_calls (a i) (a j) W)
  unfold thV at HCM
  have HL : Hid (ltT (a i) (a j) = decide (cmpT (a i) (a j) < 0)) := rfl
  rw [HL.out]
  generalize cmpT (a i) (a j) = cv at *
  generalize (a i).x = ix at *
  generalize (a i).a = ia at *
  generalize (a i).b = ib at *
  generalize (a j).x = jx at *
  generalize (a j).a = ja at *
  generalize (a j).b = jb at *
  have lb := h.hd.lt
  clear h h4 i0 i1 i2 j0 j1 j2 HL
  go_enter Try.func68, Try.ntmps68
  go_wp2_with fail
  go_region_held3 (fun w' => w'.cell? ⟨gb, i * 3, none⟩ = some (.int .i64 ix) ∧ w'.cell? ⟨gb, i * 3 + 1, none⟩ = some (.int .i64 ia) ∧ w'.cell? ⟨gb, i * 3 + 2, none⟩ = some (.int .i64 ib) ∧ w'.cell? ⟨gb, j * 3, none⟩ = some (.int .i64 jx) ∧ w'.cell? ⟨gb, j * 3 + 1, none⟩ = some (.int .i64 ja) ∧ w'.cell? ⟨gb, j * 3 + 2, none⟩ = some (.int .i64 jb) ∧ w'.cell? ⟨qb, 0, none⟩ = some (.slice (some ⟨gb, 0, none⟩) n cap))
    (exact HCL.out _ (by repeat (first | exact FH.out | exact Fr.refl NoF _ | apply Fr.drew | apply Fr.drewN)))
    (first
      | (go_at_call 21; (with_reducible refine (HCM.out _).mono ?_); rintro e wh ⟨rfl, fh⟩; have FH := Lib.hid (((Fr.refl NoF w).drew).trans fh (fun _ q => q.elim)); clear fh))
  all_goals
    go_wp2
    go_returns
    exact ⟨rfl, by repeat (first | exact FH.out | apply Fr.drew | apply Fr.drewN)⟩
set_option maxHeartbeats 1000000 in
/-- Two things change places. -/
theorem QC.swap {gb cap : Nat} (h : QC w qb a n (.slice (some ⟨gb, 0, none⟩) n cap) mo g) {i j : Nat} (hi : i < n) (hj : j < n) {w1 : World}
    (hw : w1 = (((((w.setCell ⟨gb, i * 3, none⟩ (.int .i64 (a j).x)).setCell ⟨gb, i * 3 + 1, none⟩ (.int .i64 (a j).a)).setCell ⟨gb, i * 3 + 2, none⟩ (.int .i64 (a j).b)).setCell ⟨gb, j * 3, none⟩ (.int .i64 (a i).x)).setCell ⟨gb, j * 3 + 1, none⟩ (.int .i64 (a i).a)).setCell ⟨gb, j * 3 + 2, none⟩ (.int .i64 (a i).b)) :
    SlF w1 54 3 (.slice (some ⟨gb, 0, none⟩) n cap) n (thF (swp a i j)) ∧ Fr (fun k => k = gb) w w1 ∧ ∃ mb, mo = some mb ∧ MpN Try.prog 3 3 .i64 .i64 w1 mb n g ∧ w1.cell? ⟨qb, 0, none⟩ = some (.slice (some ⟨gb, 0, none⟩) n cap) ∧ w1.cell? ⟨qb, 1, none⟩ = some (.map (some mb)) ∧ i64 (a i).x ∧ i64 (a j).x ∧
      Hid (∀ w2, MpN Try.prog 3 3 .i64 .i64 w2 mb n (updI (updI g (a j).x (some (i : Int))) (a i).x (some (j : Int))) → Fr (fun k => k = mb) w1 w2 → HRq qb w2 (swp a i j) n (FQ qb (.slice (some ⟨gb, 0, none⟩) n cap) mo) ∧ Fr (FQ qb (.slice (some ⟨gb, 0, none⟩) n cap) mo) w w2) := by
  have fr : Fr (fun k => k = gb) w w1 := by
    rw [hw]
    exact ((((((Fr.refl (fun k => k = gb) w).setCell (p := ⟨gb, i * 3, none⟩) (.inl rfl) _).setCell (p := ⟨gb, i * 3 + 1, none⟩) (.inl rfl) _).setCell (p := ⟨gb, i * 3 + 2, none⟩) (.inl rfl) _).setCell (p := ⟨gb, j * 3, none⟩) (.inl rfl) _).setCell (p := ⟨gb, j * 3 + 1, none⟩) (.inl rfl) _).setCell (p := ⟨gb, j * 3 + 2, none⟩) (.inl rfl) _
  have s1 := ((((((h.li.set (i := i * 3) (by omega) (.int .i64 (a j).x)).set (i := i * 3 + 1) (by omega) (.int .i64 (a j).a)).set (i := i * 3 + 2) (by omega) (.int .i64 (a j).b)).set (i := j * 3) (by omega) (.int .i64 (a i).x)).set (i := j * 3 + 1) (by omega) (.int .i64 (a i).a)).set (i := j * 3 + 2) (by omega) (.int .i64 (a i).b))
  rw [thF_set a i (a j), thF_set (upd a i (a j)) j (a i), swp_upd, ← hw] at s1
  clear hw
  obtain ⟨k1, k2⟩ := h.n1 gb rfl
  cases mo with
  | none => have := h.mp.1; omega
  | some mb =>
    have k3 := h.n2 mb rfl
    have hne : ¬ mb = gb := fun q => k2 (by rw [q])
    refine ⟨s1, fr, mb, rfl, MpN.fr h.mp fr hne, ?_, ?_, (h.ok i hi).1, (h.ok j hj).1, ?_⟩
    · rw [fr.cell (p := ⟨qb, 0, none⟩) h.hd.lt (fun q => k1 q.symm)]; exact h.c0
    · rw [fr.cell (p := ⟨qb, 1, none⟩) h.hd.lt (fun q => k1 q.symm)]; exact h.c1
    · intro w2 hm f2
      refine ⟨⟨_, some mb, _, ⟨(h.hd.fr fr (fun q => k1 q.symm)).fr f2 (fun q => k3 q.symm), s1.fr f2 (fun b q e => by rw [e] at q; exact (h.n1 mb q).2 rfl), hm, fun x k => ?_, fun k hk => ?_, h.n1, h.n2, h.sm⟩, fun i => Iff.rfl⟩, (fr.mono (fun i q => .inr (.inl (by rw [q]; rfl)))).trans f2 (fun i q => .inl (.inr (.inr (by rw [q]))))⟩
      · have hij := h.inj
        by_cases e1 : x = (a i).x
        · subst e1
          rw [updI_same]
          constructor
          · rintro ⟨rfl⟩
            refine ⟨j, rfl, hj, ?_⟩
            unfold swp; split
            · rename_i q; rw [q]
            · rw [if_pos rfl]
          · rintro ⟨j', rfl, hj', q⟩
            have : j' = j := by
              have hs := swp_inj hi hj hij
              refine hs j' j hj' hj ?_
              show (swp a i j j').x = (swp a i j j).x
              rw [q]
              unfold swp; split
              · rename_i q; rw [q]
              · rw [if_pos rfl]
            rw [this]
        · rw [updI_other _ _ e1]
          by_cases e2 : x = (a j).x
          · subst e2
            rw [updI_same]
            constructor
            · rintro ⟨rfl⟩
              exact ⟨i, rfl, hi, by unfold swp; rw [if_pos rfl]⟩
            · rintro ⟨j', rfl, hj', q⟩
              have : j' = i := by
                have hs := swp_inj hi hj hij
                refine hs j' i hj' hi ?_
                show (swp a i j j').x = (swp a i j i).x
                rw [q]
                unfold swp; rw [if_pos rfl]
              rw [this]
          · rw [updI_other _ _ e2, h.pl x k]
            constructor
            · rintro ⟨j', rfl, hj', q⟩
              refine ⟨j', rfl, hj', ?_⟩
              unfold swp
              rw [if_neg (fun e => e1 (by rw [← q, e])), if_neg (fun e => e2 (by rw [← q, e]))]; exact q
            · rintro ⟨j', rfl, hj', q⟩
              refine ⟨j', rfl, hj', ?_⟩
              unfold swp at q
              split at q
              · exact (e2 q.symm).elim
              · split at q
                · exact (e1 q.symm).elim
                · exact q
      · unfold swp
        split
        · exact h.ok j hj
        · split
          · exact h.ok i hi
          · exact h.ok k hk
end
end Go.Proofs.Ytpebonpibhdfoaa

/-
  The document's queue: Put; lists in their order.
-/
import Derived.Test.YtpebonpibhdfoaaQueM
namespace Go.Proofs.Ytpebonpibhdfoaa
open Go.RowKit Go.Maps
set_option linter.unusedVariables false

def Srt (l : List Th) : Prop := l.Pairwise (fun t u => ltT t u = true)
def insT (x : Th) : List Th → List Th
  | [] => [x]
  | t :: r => if ltT x t = true then x :: t :: r else t :: insT x r
def pst (x : Th) (s : Bool × List Th) (t : Th) : Bool × List Th := if s.1 = false ∧ ltT x t = true then (true, s.2 ++ [x, t]) else (s.1, s.2 ++ [t])
theorem pst_in (x : Th) : ∀ (l acc : List Th), l.foldl (pst x) (true, acc) = (true, acc ++ l) := by
  intro l
  induction l with
  | nil => intro acc; simp
  | cons t l ih => intro acc; rw [List.foldl_cons, show pst x (true, acc) t = (true, acc ++ [t]) from rfl, ih]; simp
theorem pst_ins (x : Th) : ∀ (l acc : List Th), (if (l.foldl (pst x) (false, acc)).1 = true then (l.foldl (pst x) (false, acc)).2 else (l.foldl (pst x) (false, acc)).2 ++ [x]) = acc ++ insT x l := by
  intro l
  induction l with
  | nil => intro acc; simp [insT]
  | cons t l ih =>
    intro acc
    rw [List.foldl_cons]
    by_cases h : ltT x t = true
    · rw [show pst x (false, acc) t = (true, acc ++ [x, t]) from by simp [pst, h], pst_in]
      simp [insT, h]
    · rw [show pst x (false, acc) t = (false, acc ++ [t]) from by simp [pst, h], ih]
      simp [insT, h]
theorem pst_len (x : Th) : ∀ (l : List Th), ((l.foldl (pst x) (false, [])).2).length ≤ l.length + 1 := by
  intro l
  have h := pst_ins x l []
  have h2 : ∀ l, (insT x l).length = l.length + 1 := by
    intro l
    induction l with
    | nil => rfl
    | cons t l ih => unfold insT; split <;> simp [ih]
  have h3 := congrArg List.length h
  rw [List.nil_append, h2] at h3
  split at h3
  · omega
  · rw [List.length_append] at h3; omega
theorem insT_mem (x : Th) (l : List Th) (t : Th) : t ∈ insT x l ↔ t = x ∨ t ∈ l := by
  induction l with
  | nil => simp [insT]
  | cons u l ih =>
    unfold insT
    split
    · simp
    · simp only [List.mem_cons, ih]
      constructor
      · rintro (h | h | h)
        · exact .inr (.inl h)
        · exact .inl h
        · exact .inr (.inr h)
      · rintro (h | h | h)
        · exact .inr (.inl h)
        · exact .inl h
        · exact .inr (.inr h)
theorem ltT_trans {t u v : Th} (h1 : ltT t u = true) (h2 : ltT u v = true) : ltT t v = true := by
  rw [ltT_iff] at *; omega
theorem ltT_irr (t : Th) : ltT t t = false := by rw [ltT_not]; omega
theorem insT_srt (x : Th) (l : List Th) (h : Srt l) (hx : ∀ t ∈ l, ¬ t.x = x.x) : Srt (insT x l) := by
  induction l with
  | nil => unfold insT Srt; simp
  | cons u l ih =>
    have h' := List.pairwise_cons.1 h
    unfold insT
    by_cases e : ltT x u = true
    · rw [if_pos e]
      refine List.pairwise_cons.2 ⟨fun t ht => ?_, h⟩
      rcases List.mem_cons.1 ht with rfl | ht
      · exact e
      · exact ltT_trans e (h'.1 t ht)
    · rw [if_neg e]
      refine List.pairwise_cons.2 ⟨fun t ht => ?_, ih h'.2 (fun t ht => hx t (List.mem_cons_of_mem _ ht))⟩
      rcases (insT_mem x l t).1 ht with rfl | ht
      · have e' : ltT t u = false := by simpa using e
        exact ltT_total e' (fun q => hx u (List.mem_cons_self ..) q.symm)
      · exact h'.1 t ht
theorem dropT_srt {l : List Th} (h : Srt l) (x : Int) : Srt (dropT l x) := List.Pairwise.filter _ h
theorem dropT_mem {l : List Th} {x : Int} {t : Th} : t ∈ dropT l x ↔ t ∈ l ∧ ¬ t.x = x := by simp [dropT]
theorem srt_unique : ∀ (l l' : List Th), Srt l → Srt l' → (∀ t, t ∈ l ↔ t ∈ l') → l = l' := by
  intro l
  induction l with
  | nil =>
    intro l' _ _ hm
    cases l' with
    | nil => rfl
    | cons u l' => exact absurd ((hm u).2 (List.mem_cons_self ..)) (by simp)
  | cons t l ih =>
    intro l' h h' hm
    cases l' with
    | nil => exact absurd ((hm t).1 (List.mem_cons_self ..)) (by simp)
    | cons u l' =>
      obtain ⟨a1, a2⟩ := List.pairwise_cons.1 h
      obtain ⟨b1, b2⟩ := List.pairwise_cons.1 h'
      have e : t = u := by
        rcases List.mem_cons.1 ((hm t).1 (List.mem_cons_self ..)) with q | q
        · exact q
        · rcases List.mem_cons.1 ((hm u).2 (List.mem_cons_self ..)) with q' | q'
          · exact q'.symm
          · have c1 := b1 t q
            have c2 := a1 u q'
            have := ltT_trans c1 c2
            rw [ltT_irr] at this
            cases this
      subst e
      congr 1
      refine ih l' a2 b2 (fun v => ⟨fun q => ?_, fun q => ?_⟩)
      · rcases List.mem_cons.1 ((hm v).1 (List.mem_cons_of_mem _ q)) with rfl | q'
        · have := a1 v q
          rw [ltT_irr] at this
          cases this
        · exact q'
      · rcases List.mem_cons.1 ((hm v).2 (List.mem_cons_of_mem _ q)) with rfl | q'
        · have := b1 v q
          rw [ltT_irr] at this
          cases this
        · exact q'
def putT (l : List Th) (x : Th) : List Th := insT x (dropT l x.x)
section
variable {w w' : World} {v : Value} {l : List Th}
set_option maxRecDepth 100000 in
set_option maxHeartbeats 4000000 in
theorem rput (h : IL w v l) (hl : l.length < 10000) (x : Th) : Calls Try.prog 8 #[v, thV x] w fun e w' => ∃ v', e = .returned v' ∧ IO w.heap.size w' v' (putT l x) ∧ Fr NoF w w' := by
  obtain ⟨tx, ta, tb⟩ := x
  have HI := Lib.hid h
  obtain ⟨va, vc, rfl, v1, v2⟩ := h.shape
  have fB : Fr NoF w (w.alloc (.cells #[.int .i64 tx, .int .i64 ta, .int .i64 tb] 32)) := (Fr.refl NoF w).alloc _
  have HFB := Lib.hid fB
  have HD := Lib.hid (rdrop (h.fr0 fB) (by omega) tx)
  have HBX : Hid (∀ W, Fr NoF (w.alloc (.cells #[.int .i64 tx, .int .i64 ta, .int .i64 tb] 32)) W → W.cell? ⟨w.heap.size, 0, none⟩ = some (.int .i64 tx) ∧ W.cell? ⟨w.heap.size, 1, none⟩ = some (.int .i64 ta) ∧ W.cell? ⟨w.heap.size, 2, none⟩ = some (.int .i64 tb)) := by
    intro W f
    have b1 : Blk (w.alloc (.cells #[.int .i64 tx, .int .i64 ta, .int .i64 tb] 32)) w.heap.size 3 (fun i => if i = 0 then .int .i64 tx else if i = 1 then .int .i64 ta else .int .i64 tb) := Blk.new w _ 32 3 _ _ rfl rfl (fun i hi => by
      match i, hi with
      | 0, _ => rfl
      | 1, _ => rfl
      | 2, _ => rfl)
    have c1 := b1.fr f (fun q => q)
    exact ⟨c1.cell (i := 0) (by omega), c1.cell (i := 1) (by omega), c1.cell (i := 2) (by omega)⟩
  have HLE := Lib.hid (fun (u : Th) W => rless ⟨tx, ta, tb⟩ u W)
  have hdl := dropT_len l tx
  have HDD := Lib.hid hdl
  have hlb : w.heap.size < (w.alloc (.cells #[.int .i64 tx, .int .i64 ta, .int .i64 tb] 32)).heap.size := by simp
  clear h fB
  have HG : Hid (putT l ⟨tx, ta, tb⟩ = insT ⟨tx, ta, tb⟩ (dropT l tx)) := rfl
  unfold thV at HLE ⊢
  rw [HG.out]
  clear HG
  generalize dropT l tx = P at *
  go_enter Try.func8, Try.ntmps8
  go_wp2_with fail
  refine HD.out.mono ?_
  rintro e w1 ⟨v1', rfl, ho1, f1⟩
  have HP : Hid (∀ W, Fr NoF w1 W → IL W v1' P) := fun W f => ho1.il.fr0 f
  have HF1 := Lib.hid f1
  obtain ⟨pa, pc, rfl, p1, p2⟩ := ho1.il.shape
  have hsz1 := f1.size
  clear ho1 f1 HD HI
  generalize w.alloc (.cells #[.int .i64 tx, .int .i64 ta, .int .i64 tb] 32) = wB at *
  go_wp2_with fail
  go_loopw [5, 6, 7] (fun o b i wr => ∃ k : Nat, k ≤ P.length ∧ i = .int .i64 k ∧ (∃ s, b = .bool s.1 ∧ (P.take k).foldl (pst ⟨tx, ta, tb⟩) (false, []) = s ∧ IO w1.heap.size wr o s.2) ∧ Fr NoF w1 wr) (fun _ _ i _ => P.length - (intOf i).toNat)
  case atStart => exact ⟨0, Nat.zero_le _, rfl, ⟨(false, []), rfl, rfl, World.ownsRow_nil _ _ _ _⟩, Fr.refl _ _⟩
  case round =>
    obtain ⟨k, hk, rfl, ⟨⟨ib, acc⟩, rfl, hs, ho⟩, hf⟩ := hrel
    have ho : IO w1.heap.size wr _ acc := ho
    have HO := Lib.hid ho
    have HF := Lib.hid hf
    have hal : acc.length ≤ k + 1 := by
      have := pst_len ⟨tx, ta, tb⟩ (P.take k)
      rw [hs, List.length_take, Nat.min_eq_left hk] at this
      exact this
    have HSZ : Hid (∀ W, Fr NoF wr W → w1.heap.size ≤ W.heap.size) := fun W f => Nat.le_trans hf.size f.size
    by_cases hlt : k < P.length
    · obtain ⟨b, off, c, ev, q1, y0, y1, y2⟩ := (HP.out wr hf).at hlt
      simp only [Value.slice.injEq] at ev
      obtain ⟨rfl, _, rfl⟩ := ev
      have hS : (P.take (k + 1)).foldl (pst ⟨tx, ta, tb⟩) (false, []) = pst ⟨tx, ta, tb⟩ (ib, acc) P[k] := by rw [take_snoc P hlt, List.foldl_append, hs]; rfl
      have HCL : Hid (∀ W, Fr NoF wr W → W.cell? ⟨b, off + k * 3, none⟩ = some (.int .i64 P[k].x) ∧ W.cell? ⟨b, off + k * 3 + 1, none⟩ = some (.int .i64 P[k].a) ∧ W.cell? ⟨b, off + k * 3 + 2, none⟩ = some (.int .i64 P[k].b) ∧ W.cell? ⟨w.heap.size, 0, none⟩ = some (.int .i64 tx) ∧ W.cell? ⟨w.heap.size, 1, none⟩ = some (.int .i64 ta) ∧ W.cell? ⟨w.heap.size, 2, none⟩ = some (.int .i64 tb) ∧ b < W.heap.size ∧ w.heap.size < W.heap.size) := by
        intro W f
        have f1 := HF.out.trans f (fun _ q => q.elim)
        obtain ⟨b', off', c', ev', q1', z0, z1, z2⟩ := (HP.out W f1).at hlt
        simp only [Value.slice.injEq, Option.some.injEq, Addr.mk.injEq] at ev'
        obtain ⟨⟨rfl, rfl, _⟩, _, _⟩ := ev'
        have fx := HF1.out.trans f1 (fun _ q => q.elim)
        obtain ⟨x0, x1, x2⟩ := HBX.out W fx
        exact ⟨z0, z1, z2, x0, x1, x2, q1', by have := fx.size; omega⟩
      have HCW : Hid (∀ W, Fr NoF w1 W → W.cell? ⟨b, off + k * 3, none⟩ = some (.int .i64 P[k].x) ∧ W.cell? ⟨b, off + k * 3 + 1, none⟩ = some (.int .i64 P[k].a) ∧ W.cell? ⟨b, off + k * 3 + 2, none⟩ = some (.int .i64 P[k].b) ∧ b < W.heap.size) := by
        intro W f1
        obtain ⟨b', off', c', ev', q1', z0, z1, z2⟩ := (HP.out W f1).at hlt
        simp only [Value.slice.injEq, Option.some.injEq, Addr.mk.injEq] at ev'
        obtain ⟨⟨rfl, rfl, _⟩, _, _⟩ := ev'
        exact ⟨z0, z1, z2, q1'⟩
      have HS := Lib.hid hS
      clear hS ho hf hs y0 y1 y2
      obtain ⟨y0, y1, y2, x0, x1, x2, q1, q2⟩ := HCL.out _ (Fr.refl NoF wr)
      generalize P[k] = u at *
      obtain ⟨ux, ua, ub⟩ := u
      simp only at y0 y1 y2 HCL HCW
      have HLU := Lib.hid (HLE.out ⟨ux, ua, ub⟩)
      have HS2 : Hid ((P.take (k + 1)).foldl (pst ⟨tx, ta, tb⟩) (false, []) = if ib = false ∧ ltT ⟨tx, ta, tb⟩ ⟨ux, ua, ub⟩ = true then (true, acc ++ [⟨tx, ta, tb⟩, ⟨ux, ua, ub⟩]) else (ib, acc ++ [⟨ux, ua, ub⟩])) := HS.out
      clear HS HLE HBX HP
      generalize ltT ⟨tx, ta, tb⟩ ⟨ux, ua, ub⟩ = lt at *
      cases ib with
      | true =>
        rw [if_neg (by simp)] at HS2
        go_wp2_with fail
        go_quiet (fail)
        go_wp2_with (at_builtin; go_must (refine appLB (base := w1.heap.size) EIi3 rfl _ _ rfl (by rfl) (by rfl) (HSZ.out _ (by repeat (first | exact Fr.refl NoF _ | apply Fr.drew | apply Fr.drewN | apply Fr.alloc))) (own_keep HO.out (by repeat (first | exact Fr.refl NoF _ | apply Fr.drew | apply Fr.drewN | apply Fr.alloc)) (fun _ _ q => q)) (sl_heap (size := 3) (n := 1) (cs := #[.int .i64 ux, .int .i64 ua, .int .i64 ub]) (by (try rw [heap_drew]); refine heap_alloc_new _ _ _ ?_; simp) (by rfl) (by unfold maxLen; omega) (by simp [Value.oneCell'])) (by unfold maxLen; omega) (by omega) ?_); intro v6 w6 hown' hf' hnb; have HF6 := Lib.hid hf'; have HO6 := Lib.hid hown'; clear hown' hf' hnb)
        go_roundw
        case rel =>
          refine ⟨k + 1, by omega, by go_num, ⟨_, rfl, HS2.out, IO.snoc HO6.out⟩, ?_⟩
          exact (HF.out.trans (G := NoF) (by repeat (first | exact Fr.refl NoF _ | apply Fr.drew | apply Fr.drewN | apply Fr.alloc)) (fun _ q => q.elim)).trans HF6.out (fun i hi => .inr (ownBlock_own HO.out i hi))
        case measure => simp [intOf]; omega
      | false =>
        cases lt with
        | false =>
          rw [if_neg (by simp)] at HS2
          go_wp2_with fail
          go_region_held3 (fun w' => w'.cell? ⟨b, off + k * 3, none⟩ = some (.int .i64 ux) ∧ w'.cell? ⟨b, off + k * 3 + 1, none⟩ = some (.int .i64 ua) ∧ w'.cell? ⟨b, off + k * 3 + 2, none⟩ = some (.int .i64 ub) ∧ w'.cell? ⟨w.heap.size, 0, none⟩ = some (.int .i64 tx) ∧ w'.cell? ⟨w.heap.size, 1, none⟩ = some (.int .i64 ta) ∧ w'.cell? ⟨w.heap.size, 2, none⟩ = some (.int .i64 tb) ∧ b < w'.heap.size ∧ w.heap.size < w'.heap.size)
          (exact HCL.out _ (by repeat (first | exact Fr.refl NoF _ | exact HF5.out | apply Fr.drew | apply Fr.drewN | apply Fr.alloc)))
          (first | (go_at_call 16; (with_reducible refine (HLU.out _).mono ?_); rintro e w5 ⟨rfl, f5⟩; have HF5 : Hid (Fr NoF wr w5) := Fr.trans (F := NoF) (G := NoF) (by repeat (first | exact Fr.refl NoF _ | apply Fr.drew | apply Fr.drewN | apply Fr.alloc)) f5 (fun _ q => q.elim); clear f5; obtain ⟨y0, y1, y2, x0, x1, x2, q1, q2⟩ := HCL.out _ HF5.out))
          all_goals
            go_wp2_with (at_builtin; go_must (refine appLB (base := w1.heap.size) EIi3 rfl _ _ rfl (by rfl) (by rfl) (HSZ.out _ (by repeat (first | exact Fr.refl NoF _ | exact HF5.out | apply Fr.drew | apply Fr.drewN | apply Fr.alloc))) (own_keep HO.out (by repeat (first | exact Fr.refl NoF _ | exact HF5.out | apply Fr.drew | apply Fr.drewN | apply Fr.alloc)) (fun _ _ q => q)) (sl_heap (size := 3) (n := 1) (cs := #[.int .i64 ux, .int .i64 ua, .int .i64 ub]) (by (try rw [heap_drew]); refine heap_alloc_new _ _ _ ?_; simp) (by rfl) (by unfold maxLen; omega) (by simp [Value.oneCell'])) (by unfold maxLen; omega) (by omega) ?_); intro v6 w6 hown' hf' hnb; have HF6 := Lib.hid hf'; have HO6 := Lib.hid hown'; clear hown' hf' hnb)
            go_roundw
            case rel =>
              refine ⟨k + 1, by omega, by go_num, ⟨_, rfl, HS2.out, IO.snoc HO6.out⟩, ?_⟩
              exact (HF.out.trans (G := NoF) (by repeat (first | exact Fr.refl NoF _ | exact HF5.out | apply Fr.drew | apply Fr.drewN | apply Fr.alloc)) (fun _ q => q.elim)).trans HF6.out (fun i hi => .inr (ownBlock_own HO.out i hi))
            case measure => simp [intOf]; omega
        | true =>
          rw [if_pos ⟨rfl, rfl⟩] at HS2
          go_wp2_with fail
          go_region_held3 (fun w' => w'.cell? ⟨b, off + k * 3, none⟩ = some (.int .i64 ux) ∧ w'.cell? ⟨b, off + k * 3 + 1, none⟩ = some (.int .i64 ua) ∧ w'.cell? ⟨b, off + k * 3 + 2, none⟩ = some (.int .i64 ub) ∧ w'.cell? ⟨w.heap.size, 0, none⟩ = some (.int .i64 tx) ∧ w'.cell? ⟨w.heap.size, 1, none⟩ = some (.int .i64 ta) ∧ w'.cell? ⟨w.heap.size, 2, none⟩ = some (.int .i64 tb) ∧ b < w'.heap.size ∧ w.heap.size < w'.heap.size)
          (exact HCL.out _ (by repeat (first | exact Fr.refl NoF _ | exact HF5.out | apply Fr.drew | apply Fr.drewN | apply Fr.alloc)))
          (first | (go_at_call 16; (with_reducible refine (HLU.out _).mono ?_); rintro e w5 ⟨rfl, f5⟩; have HF5 : Hid (Fr NoF wr w5) := Fr.trans (F := NoF) (G := NoF) (by repeat (first | exact Fr.refl NoF _ | apply Fr.drew | apply Fr.drewN | apply Fr.alloc)) f5 (fun _ q => q.elim); clear f5; obtain ⟨y0, y1, y2, x0, x1, x2, q1, q2⟩ := HCL.out _ HF5.out))
          all_goals
            have hal2 : (acc ++ [(⟨tx, ta, tb⟩ : Th)]).length ≤ k + 2 := by rw [List.length_append]; show acc.length + 1 ≤ _; omega
            go_upto_region 9 with (at_builtin; go_must (refine appLB (base := w1.heap.size) EIi3 rfl _ _ rfl (by rfl) (by rfl) (HSZ.out _ (by repeat (first | exact Fr.refl NoF _ | exact HF5.out | apply Fr.drew | apply Fr.drewN | apply Fr.alloc))) (own_keep HO.out (by repeat (first | exact Fr.refl NoF _ | exact HF5.out | apply Fr.drew | apply Fr.drewN | apply Fr.alloc)) (fun _ _ q => q)) (sl_heap (size := 3) (n := 1) (cs := #[.int .i64 tx, .int .i64 ta, .int .i64 tb]) (by (try rw [heap_drew]); refine heap_alloc_new _ _ _ ?_; simp) (by rfl) (by unfold maxLen; omega) (by simp [Value.oneCell'])) (by unfold maxLen; omega) (by omega) ?_); intro v6 w6 hown' hf' hnb; have HF6 := Lib.hid hf'; have HO6 := Lib.hid hown'; clear hown' hf' hnb; have HF16 : Hid (Fr NoF w1 w6) := (HF.out.trans (G := NoF) (by repeat (first | exact Fr.refl NoF _ | exact HF5.out | apply Fr.drew | apply Fr.drewN | apply Fr.alloc)) (fun _ q => q.elim)).trans HF6.out (fun i hi => .inr (ownBlock_own HO.out i hi)); have HS6 : Hid (∀ W, Fr NoF w6 W → w1.heap.size ≤ W.heap.size) := fun W f => Nat.le_trans HF16.out.size f.size; obtain ⟨z0, z1, z2, z3⟩ := HCW.out _ HF16.out; clear y0 y1 y2 x0 x1 x2 q1 q2)
            go_wp2_with (at_builtin; go_must (refine appLB (base := w1.heap.size) EIi3 rfl _ _ rfl (by rfl) (by rfl) (HS6.out _ (by repeat (first | exact Fr.refl NoF _ | apply Fr.drew | apply Fr.drewN | apply Fr.alloc))) (own_keep (IO.snoc (t := ⟨tx, ta, tb⟩) HO6.out) (by repeat (first | exact Fr.refl NoF _ | apply Fr.drew | apply Fr.drewN | apply Fr.alloc)) (fun _ _ q => q)) (sl_heap (size := 3) (n := 1) (cs := #[.int .i64 ux, .int .i64 ua, .int .i64 ub]) (by (try rw [heap_drew]); refine heap_alloc_new _ _ _ ?_; simp) (by rfl) (by unfold maxLen; omega) (by simp [Value.oneCell'])) (by unfold maxLen; omega) (by omega) ?_); intro v7 w7 hown' hf' hnb; have HF7 := Lib.hid hf'; have HO7 := Lib.hid hown'; clear hown' hf' hnb)
            go_roundw
            case rel =>
              refine ⟨k + 1, by omega, by go_num, ⟨_, rfl, HS2.out, ?_⟩, ?_⟩
              · have h9 := IO.snoc (l := acc ++ [⟨tx, ta, tb⟩]) (t := ⟨ux, ua, ub⟩) HO7.out
                rw [List.append_assoc] at h9
                exact h9
              · exact (HF16.out.trans (G := NoF) (by repeat (first | exact Fr.refl NoF _ | apply Fr.drew | apply Fr.drewN | apply Fr.alloc)) (fun _ q => q.elim)).trans HF7.out (fun i hi => .inr (ownBlock_own HO6.out i hi))
            case measure => simp [intOf]; omega
    · obtain rfl : k = P.length := by omega
      rw [List.take_length] at hs
      have hpi := pst_ins ⟨tx, ta, tb⟩ P []
      rw [hs, List.nil_append] at hpi
      have HPI := Lib.hid hpi
      obtain ⟨x0, x1, x2⟩ := HBX.out wr (HF1.out.trans HF.out (fun _ q => q.elim))
      have hwz : w.heap.size < wr.heap.size := by have := HF.out.size; omega
      have HMO : Hid (∀ W v l, IO w1.heap.size W v l → IO w.heap.size W v l) := fun W v l h => ⟨h.1, h.2.imp id (fun ⟨g, cap, cur, a1, a2, a3⟩ => ⟨g, cap, cur, a1, by have := HFB.out.size; omega, a3⟩)⟩
      clear hs hpi ho hf
      cases ib with
      | true =>
        rw [if_pos rfl] at HPI
        go_wp2
        go_returns
        exact ⟨_, rfl, by rw [← HPI.out]; exact HMO.out _ _ _ HO.out, HFB.out.trans (HF1.out.trans HF.out (fun _ q => q.elim)) (fun _ q => q.elim)⟩
      | false =>
        rw [if_neg (by simp)] at HPI
        go_wp2_with (at_builtin; go_must (refine appLB (base := w1.heap.size) EIi3 rfl _ _ rfl (by rfl) (by rfl) (HSZ.out _ (by repeat (first | exact Fr.refl NoF _ | apply Fr.drew | apply Fr.drewN | apply Fr.alloc))) (own_keep HO.out (by repeat (first | exact Fr.refl NoF _ | apply Fr.drew | apply Fr.drewN | apply Fr.alloc)) (fun _ _ q => q)) (sl_heap (size := 3) (n := 1) (cs := #[.int .i64 tx, .int .i64 ta, .int .i64 tb]) (by (try rw [heap_drew]); refine heap_alloc_new _ _ _ ?_; simp) (by rfl) (by unfold maxLen; omega) (by simp [Value.oneCell'])) (by unfold maxLen; omega) (by omega) ?_); intro v6 w6 hown' hf' hnb; have HF6 := Lib.hid hf'; have HO6 := Lib.hid hown'; clear hown' hf' hnb)
        go_returns
        exact ⟨_, rfl, by rw [← HPI.out]; exact HMO.out _ _ _ (IO.snoc (t := ⟨tx, ta, tb⟩) HO6.out), HFB.out.trans (HF1.out.trans ((HF.out.trans (G := NoF) (by repeat (first | exact Fr.refl NoF _ | apply Fr.drew | apply Fr.drewN | apply Fr.alloc)) (fun _ q => q.elim)).trans HF6.out (fun i hi => .inr (ownBlock_own HO.out i hi))) (fun _ q => q.elim)) (fun _ q => q.elim)⟩
end
end Go.Proofs.Ytpebonpibhdfoaa

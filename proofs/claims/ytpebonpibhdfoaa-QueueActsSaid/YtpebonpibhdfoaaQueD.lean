/-
  queue's things in memory: Push, Pop; container/heap over them.
-/
import Derived.Test.YtpebonpibhdfoaaQueC
import Derived.Deep.DeepCutAuto
namespace Go.Proofs.Ytpebonpibhdfoaa
open Go.RowKit Go.Maps
set_option linter.unusedVariables false

def encT (t : Th) : Value := .iface 54 (thV t)
def okT (a : Nat → Th) (n : Nat) (t : Th) : Prop := n < 900000 ∧ thOk t ∧ ∀ k, k < n → ¬ (a k).x = t.x
theorem EIt : EI Try.prog 47 54 3 24 := EI.mk' (z := .agg #[.int .i64 0, .int .i64 0, .int .i64 0]) Try.underlying47 (by kernel_rfl) rfl (by decide)
section
variable {w w' : World} {qb n : Nat} {a : Nat → Th} {lv : Value} {mo : Option Nat} {g : Int → Option Int} {F : Nat → Prop}
/-- One more place in the map, then one more thing in the list. -/
theorem QC.grown {mb : Nat} (h : QC w qb a n lv (some mb) g) {t : Th} (ht : okT a n t) {wB w2 : World} {lv' : Value} (f0 : Fr (fun i => i = mb) w wB) (hm : MpN Try.prog 3 3 .i64 .i64 wB mb (n + 1) (updI g t.x (some (n : Int))))
    (hs : SlF w2 54 3 lv' (n + 1) (upd (upd (upd (thF a) (n * 3) (.int .i64 t.x)) (n * 3 + 1) (.int .i64 t.a)) (n * 3 + 2) (.int .i64 t.b))) (f : Fr (fun b => lv.ownBlock = some b) wB w2) (ho : ∀ b, lv'.ownBlock = some b → lv.ownBlock = some b ∨ wB.heap.size ≤ b) :
    w2.cell? ⟨qb, 0, none⟩ = some lv ∧ w2.frozen? ⟨qb, 0, none⟩ = false ∧ qb < w2.heap.size ∧
    Hid (HRq qb (w2.setCell ⟨qb, 0, none⟩ lv') (upd a n t) (n + 1) (FQ qb lv' (some mb)) ∧ Fr (FQ qb lv (some mb)) w (w2.setCell ⟨qb, 0, none⟩ lv') ∧ ∀ i, FQ qb lv' (some mb) i → FQ qb lv (some mb) i ∨ w.heap.size ≤ i) := by
  obtain ⟨hn, hok, hne⟩ := ht
  have k3 := h.n2 mb rfl
  have hb1 := (h.hd.fr f0 (fun q => k3 q.symm)).fr f (fun q => (h.n1 qb q).1 rfl)
  rw [thF_set] at hs
  have hz := f0.size
  have hz2 := f.size
  have n1' : ∀ b, lv'.ownBlock = some b → ¬ b = qb ∧ ¬ (some mb) = some b := by
    intro b q
    rcases ho b q with q | q
    · exact h.n1 b q
    · refine ⟨?_, ?_⟩
      · have := h.hd.lt; omega
      · rintro ⟨rfl⟩
        have := hm.lt; omega
  have fs : Fr (fun i => i = qb) w2 (w2.setCell ⟨qb, 0, none⟩ lv') := (Fr.refl (fun i => i = qb) w2).setCell (p := ⟨qb, 0, none⟩) (.inl rfl) _
  have hgn : g t.x = none := by
    cases e : g t.x with
    | none => rfl
    | some k =>
      obtain ⟨j, _, hj, q⟩ := (h.pl t.x k).1 e
      exact (hne j hj q).elim
  refine ⟨hb1.cell (i := 0) (by omega), hb1.frozen 0, hb1.lt, ⟨lv', some mb, _, ⟨?_, hs.fr fs (fun b q e => (n1' b q).1 e), (MpN.fr hm f (fun q => (h.n1 mb q).2 rfl)).fr fs (fun q => k3 q), fun x k => ?_, fun k hk => ?_, n1', h.n2, by omega⟩, fun i => Iff.rfl⟩, ((f0.mono (fun i q => .inr (.inr (by rw [q])))).trans f (fun i q => .inl (.inr (.inl q)))).trans fs (fun i q => .inl (.inl q)), ?_⟩
  · have h1 := hb1.set 0 lv'
    refine h1.congr (fun i hi => ?_)
    match i, hi with
    | 0, _ => rfl
    | 1, _ => rfl
  · by_cases e : x = t.x
    · subst e
      rw [updI_same]
      constructor
      · rintro ⟨rfl⟩
        exact ⟨n, rfl, by omega, by rw [upd_same]⟩
      · rintro ⟨j, rfl, hj, q⟩
        by_cases ej : j = n
        · rw [ej]
        · rw [upd_other _ _ ej] at q
          exact (hne j (by omega) q).elim
    · rw [updI_other _ _ e, h.pl x k]
      constructor
      · rintro ⟨j, rfl, hj, q⟩
        exact ⟨j, rfl, by omega, by rw [upd_other _ _ (by omega)]; exact q⟩
      · rintro ⟨j, rfl, hj, q⟩
        by_cases ej : j = n
        · subst ej; rw [upd_same] at q; exact (e q.symm).elim
        · rw [upd_other _ _ ej] at q
          exact ⟨j, rfl, by omega, q⟩
  · by_cases ek : k = n
    · subst ek; rw [upd_same]; exact hok
    · rw [upd_other _ _ ek]; exact h.ok k (by omega)
  · rintro i (q | q | q)
    · exact .inl (.inl q)
    · rcases ho i q with q | q
      · exact .inl (.inr (.inl q))
      · exact .inr (by omega)
    · exact .inl (.inr (.inr q))
theorem isnone_ne {α : Type} {x y : Option α} (h : x = none) (h2 : y = none) : x = y := by rw [h, h2]
/- PUSH -/
set_option maxRecDepth 100000 in
set_option maxHeartbeats 4000000 in
theorem q_push (h : QC w qb a n lv mo g) {t : Th} (ht : okT a n t) : Calls Try.prog 70 #[.pointer (some ⟨qb, 0, none⟩), encT t] w fun e w' => e = .returned (.tuple #[]) ∧ ∃ F', HRq qb w' (upd a n t) (n + 1) F' ∧ Fr (FQ qb lv mo) w w' ∧ ∀ i, F' i → FQ qb lv mo i ∨ w.heap.size ≤ i := by
  obtain ⟨tx, ta, tb⟩ := t
  unfold encT thV
  have hta : ∀ W : World, (Instr.typeAssert (.iface 54 (.agg #[.int .i64 tx, .int .i64 ta, .int .i64 tb])) 20 54 false).run Try.prog W = .ok (.agg #[.int .i64 tx, .int .i64 ta, .int .i64 tb]) W := fun W => by kernel_rfl
  have hn := ht.1
  have HOK := Lib.hid ht
  have c0 := h.c0
  have c1 := h.c1
  have f1 := h.hd.frozen 1
  have lb := h.hd.lt
  obtain ⟨va, vc, rfl, v1, v2⟩ := h.li.shape
  unfold maxLen at v2
  cases mo with
  | some mb =>
    obtain ⟨w1, rfl⟩ : ∃ w1, w1 = w := ⟨_, rfl⟩
    have H1 := Lib.hid h
    have heq : ∀ W : World, (binOp .eql 48 (.map (some mb)) (.map none)).run Try.prog W = .ok (.bool false) W := fun W => by first | rfl | kernel_rfl
    clear h ht
    go_enter Try.func70, Try.ntmps70
    go_wp2
    have HSA : Hid (∀ W, Fr NoF (w1.alloc (.cells #[.int .i64 tx, .int .i64 ta, .int .i64 tb] 54)) W → W.cell? ⟨qb, 0, none⟩ = some (.slice va n vc) ∧ W.cell? ⟨qb, 1, none⟩ = some (.map (some mb)) ∧ W.cell? ⟨w1.heap.size, 0, none⟩ = some (.int .i64 tx)) := by
      intro W f
      have fa : Fr NoF w1 W := ((Fr.refl NoF w1).alloc _).trans f (fun _ q => q.elim)
      have b1 : Blk (w1.alloc (.cells #[.int .i64 tx, .int .i64 ta, .int .i64 tb] 54)) w1.heap.size 3 (fun i => if i = 0 then .int .i64 tx else if i = 1 then .int .i64 ta else .int .i64 tb) := Blk.new w1 _ 54 3 _ _ rfl rfl (fun i hi => by
        match i, hi with
        | 0, _ => rfl
        | 1, _ => rfl
        | 2, _ => rfl)
      exact ⟨(H1.out.fr0 fa).c0, (H1.out.fr0 fa).c1, (b1.fr f (fun q => q)).cell (i := 0) (by omega)⟩
    have fA : Fr NoF w1 ((w1.alloc (.cells #[.int .i64 tx, .int .i64 ta, .int .i64 tb] 54)).drew) := ((Fr.refl NoF w1).alloc _).drew
    obtain ⟨wB, hrun, hmB, fB⟩ := (MpN.fr H1.out.mp fA (fun q => q)).put_run MIq (by omega) (x := tx) (y := (n : Int)) HOK.out.2.1.1 (WalkArith.wf_i64 ⟨by omega, by omega⟩)
    have HMB : Hid (MpN Try.prog 3 3 .i64 .i64 wB mb (n + 1) (updI g tx (some (n : Int)))) := by
      have hgn : g tx = none := by
        cases e : g tx with
        | none => rfl
        | some k =>
          obtain ⟨j, _, hj, q⟩ := (H1.out.pl tx k).1 e
          exact (HOK.out.2.2 j hj q).elim
      rw [hgn] at hmB
      exact hmB
    have HFB := Lib.hid fB
    have HFA := Lib.hid fA
    have HSB : Hid (∀ W, Fr NoF wB W → W.cell? ⟨qb, 0, none⟩ = some (.slice va n vc) ∧ W.cell? ⟨qb, 1, none⟩ = some (.map (some mb)) ∧ W.cell? ⟨w1.heap.size, 0, none⟩ = some (.int .i64 tx) ∧ W.cell? ⟨w1.heap.size, 1, none⟩ = some (.int .i64 ta) ∧ W.cell? ⟨w1.heap.size, 2, none⟩ = some (.int .i64 tb)) := by
      intro W f
      have k3 := H1.out.n2 mb rfl
      have hml := MpN.lt H1.out.mp
      have b1 : Blk (w1.alloc (.cells #[.int .i64 tx, .int .i64 ta, .int .i64 tb] 54)) w1.heap.size 3 (fun i => if i = 0 then .int .i64 tx else if i = 1 then .int .i64 ta else .int .i64 tb) := Blk.new w1 _ 54 3 _ _ rfl rfl (fun i hi => by
        match i, hi with
        | 0, _ => rfl
        | 1, _ => rfl
        | 2, _ => rfl)
      have b2 := ((b1.drew).fr HFB.out (fun q => by omega)).fr f (fun q => q)
      have hd2 := ((H1.out.hd.fr HFA.out (fun q => q)).fr HFB.out (fun q => k3 q.symm)).fr f (fun q => q)
      exact ⟨hd2.cell (i := 0) (by omega), hd2.cell (i := 1) (by omega), b2.cell (i := 0) (by omega), b2.cell (i := 1) (by omega), b2.cell (i := 2) (by omega)⟩
    clear hmB fB fA
    go_region_held3 (fun w' => w'.cell? ⟨qb, 0, none⟩ = some (.slice va n vc) ∧ w'.cell? ⟨qb, 1, none⟩ = some (.map (some mb)) ∧ w'.cell? ⟨w1.heap.size, 0, none⟩ = some (.int .i64 tx))
      (first | (obtain ⟨z0, z1, z2, _⟩ := HSB.out _ (Fr.refl NoF wB); exact ⟨z0, z1, z2⟩) | exact HSA.out _ (by repeat (first | exact Fr.refl NoF _ | apply Fr.drew | apply Fr.drewN | apply Fr.alloc)))
      (fail)
    clear hrun
    obtain ⟨z0, z1, z2, z3, z4⟩ := HSB.out wB (Fr.refl NoF wB)
    have lbB : qb < wB.heap.size := by have := HFA.out.size; have := HFB.out.size; have := H1.out.hd.lt; omega
    have ltB : w1.heap.size < wB.heap.size := by have := HFB.out.size; simp at this; omega
    have HLI : Hid (SlF wB 54 3 (.slice va n vc) n (thF a)) := (H1.out.li.fr HFA.out (fun _ _ q => q)).fr HFB.out (fun b q e => by rw [e] at q; exact (H1.out.n1 mb q).2 rfl)
    have K : Hid (∀ pv' w2 W, Fr NoF wB W → SlF w2 54 3 pv' (n + 1) (upd (upd (upd (thF a) (n * 3) (.int .i64 tx)) (n * 3 + 1) (.int .i64 ta)) (n * 3 + 2) (.int .i64 tb)) → Fr (fun b => (Value.slice va n vc).ownBlock = some b) W w2 → (∀ b, pv'.ownBlock = some b → (Value.slice va n vc).ownBlock = some b ∨ W.heap.size ≤ b) →
        w2.cell? ⟨qb, 0, none⟩ = some (.slice va n vc) ∧ w2.frozen? ⟨qb, 0, none⟩ = false ∧ qb < w2.heap.size ∧
        Hid (HRq qb (w2.setCell ⟨qb, 0, none⟩ pv') (upd a n ⟨tx, ta, tb⟩) (n + 1) (FQ qb pv' (some mb)) ∧ Fr (FQ qb (.slice va n vc) (some mb)) w1 (w2.setCell ⟨qb, 0, none⟩ pv') ∧ ∀ i, FQ qb pv' (some mb) i → FQ qb (.slice va n vc) (some mb) i ∨ w1.heap.size ≤ i)) := by
      intro pv' w2 W fW hs f ho
      have fz := fW.size
      exact H1.out.grown HOK.out ((HFA.out.mono (fun _ q => q.elim)).trans HFB.out (fun i q => .inl q)) HMB.out hs ((fW.mono (fun _ q => q.elim)).trans f (fun i q => .inl q)) (fun b q => (ho b q).imp id (fun q => by omega))
    go_wp2
    go_region_law (first
      | (refine appSB (base := 0) EIt rfl (.tmp 31) (.tmp 33) rfl (by rfl) (by rfl) (Nat.zero_le _) (own_keep HLI.out (by repeat (first | exact Fr.refl NoF _ | apply Fr.drew | apply Fr.drewN | apply Fr.alloc)) (fun _ _ q => q)) (sl_heap (size := 3) (n := 1) (cs := #[.int .i64 tx, .int .i64 ta, .int .i64 tb]) (by (try rw [heap_drew]); refine heap_alloc_new _ _ _ ?_; simp) (by rfl) (by unfold maxLen; omega) (by simp [Value.oneCell'])) (by unfold maxLen; omega) (by omega) ?_; intro v' w2 hown' hf' hob'; obtain ⟨a8, c8, rfl, _, _⟩ := (SlF.snoc3 hown').shape; obtain ⟨y0, y1, y2, KK⟩ := K.out _ w2 _ (by repeat (first | exact Fr.refl NoF _ | apply Fr.drew | apply Fr.drewN | apply Fr.alloc)) (SlF.snoc3 hown') hf' hob'; clear hown' hf' hob'))
    all_goals
      go_wp2
      go_returns
      obtain ⟨r1, r2, r3⟩ := KK.out
      exact ⟨rfl, _, r1, r2, r3⟩
  | none =>
    have hn0 : n = 0 := h.mp.1
    subst hn0
    have hmm := @run_makeMap Try.prog
    have H1' : Hid (∀ w1, w1 = (w.setCell ⟨qb, 1, none⟩ (.map (some w.heap.size))).alloc (.map #[] 0) → ∀ mb, mb = w.heap.size → ∃ g', QC w1 qb a 0 (.slice va 0 vc) (some mb) g' ∧ Fr (fun i => i = qb) w w1) := by
      rintro w1 rfl mb rfl
      have fs : Fr (fun i => i = qb) w (w.setCell ⟨qb, 1, none⟩ (.map (some w.heap.size))) := (Fr.refl (fun i => i = qb) _).setCell (p := ⟨qb, 1, none⟩) (.inl rfl) _
      have fa : Fr NoF (w.setCell ⟨qb, 1, none⟩ (.map (some w.heap.size))) ((w.setCell ⟨qb, 1, none⟩ (.map (some w.heap.size))).alloc (.map #[] 0)) := (Fr.refl NoF _).alloc _
      have hl := h.hd.lt
      have hm := MpN.made Try.prog 3 3 .i64 .i64 (w.setCell ⟨qb, 1, none⟩ (.map (some w.heap.size)))
      rw [show (w.setCell ⟨qb, 1, none⟩ (.map (some w.heap.size))).heap.size = w.heap.size from by simp] at hm
      refine ⟨fun _ => none, ⟨((h.hd.set 1 _).fr fa (fun q => q)).congr (fun i hi => ?_), (h.li.fr fs (fun b q e => (h.n1 b q).1 e)).fr fa (fun _ _ q => q), hm, fun x k => ⟨fun q => (by cases q), fun ⟨j, _, q, _⟩ => (by omega)⟩, fun k q => (by omega), fun b q => ⟨(h.n1 b q).1, ?_⟩, ?_, by omega⟩, fs.trans fa (fun _ q => q.elim)⟩
      · match i, hi with
        | 0, _ => rfl
        | 1, _ => rfl
      · rintro ⟨rfl⟩
        have := h.li.lt _ q; omega
      · rintro b ⟨rfl⟩
        omega
    have heq : ∀ W : World, (binOp .eql 48 (.map none) (.map none)).run Try.prog W = .ok (.bool true) W := fun W => by first | rfl | kernel_rfl
    clear h ht
    go_enter Try.func70, Try.ntmps70
    go_upto_region 2 with fail
    obtain ⟨w1, hw1⟩ : ∃ w1, w1 = (w.setCell ⟨qb, 1, none⟩ (.map (some w.heap.size))).alloc (.map #[] 0) := ⟨_, rfl⟩
    rw [← hw1]
    obtain ⟨g', hq, fq⟩ := H1'.out w1 hw1 _ rfl
    have H1 := Lib.hid hq
    have HFIN : Hid (∀ (w'' : World) (F' : Nat → Prop), Fr (FQ qb (.slice va 0 vc) (some w.heap.size)) w1 w'' → (∀ i, F' i → FQ qb (.slice va 0 vc) (some w.heap.size) i ∨ w1.heap.size ≤ i) → Fr (FQ qb (.slice va 0 vc) none) w w'' ∧ ∀ i, F' i → FQ qb (.slice va 0 vc) none i ∨ w.heap.size ≤ i) := by
      intro w'' F' r2 r3
      have hz := fq.size
      have key : ∀ i, FQ qb (.slice va 0 vc) (some w.heap.size) i → FQ qb (.slice va 0 vc) none i ∨ w.heap.size ≤ i := by
        rintro i (q | q | q)
        · exact .inl (.inl q)
        · exact .inl (.inr (.inl q))
        · right; have := Option.some.inj q; omega
      exact ⟨(fq.mono (fun i q => .inl q)).trans r2 key, fun i q => (r3 i q).elim (key i) (fun q => .inr (by omega))⟩
    clear hq fq hw1 H1' hmm c0 c1 f1 lb
    generalize hmbw : w.heap.size = mb at *
    have HMW := Lib.hid hmbw
    clear hmbw
    go_wp2
    have HSA : Hid (∀ W, Fr NoF (w1.alloc (.cells #[.int .i64 tx, .int .i64 ta, .int .i64 tb] 54)) W → W.cell? ⟨qb, 0, none⟩ = some (.slice va 0 vc) ∧ W.cell? ⟨qb, 1, none⟩ = some (.map (some mb)) ∧ W.cell? ⟨w1.heap.size, 0, none⟩ = some (.int .i64 tx)) := by
      intro W f
      have fa : Fr NoF w1 W := ((Fr.refl NoF w1).alloc _).trans f (fun _ q => q.elim)
      have b1 : Blk (w1.alloc (.cells #[.int .i64 tx, .int .i64 ta, .int .i64 tb] 54)) w1.heap.size 3 (fun i => if i = 0 then .int .i64 tx else if i = 1 then .int .i64 ta else .int .i64 tb) := Blk.new w1 _ 54 3 _ _ rfl rfl (fun i hi => by
        match i, hi with
        | 0, _ => rfl
        | 1, _ => rfl
        | 2, _ => rfl)
      exact ⟨(H1.out.fr0 fa).c0, (H1.out.fr0 fa).c1, (b1.fr f (fun q => q)).cell (i := 0) (by omega)⟩
    have fA : Fr NoF w1 ((w1.alloc (.cells #[.int .i64 tx, .int .i64 ta, .int .i64 tb] 54)).drew) := ((Fr.refl NoF w1).alloc _).drew
    obtain ⟨wB, hrun, hmB, fB⟩ := (MpN.fr H1.out.mp fA (fun q => q)).put_run MIq (by omega) (x := tx) (y := (0 : Int)) HOK.out.2.1.1 (WalkArith.wf_i64 ⟨by omega, by omega⟩)
    have HMB : Hid (MpN Try.prog 3 3 .i64 .i64 wB mb (0 + 1) (updI g' tx (some ((0 : Nat) : Int)))) := by
      have hgn : g' tx = none := by
        cases e : g' tx with
        | none => rfl
        | some k =>
          obtain ⟨j, _, hj, q⟩ := (H1.out.pl tx k).1 e
          exact (HOK.out.2.2 j hj q).elim
      rw [hgn] at hmB
      exact hmB
    have HFB := Lib.hid fB
    have HFA := Lib.hid fA
    have HSB : Hid (∀ W, Fr NoF wB W → W.cell? ⟨qb, 0, none⟩ = some (.slice va 0 vc) ∧ W.cell? ⟨qb, 1, none⟩ = some (.map (some mb)) ∧ W.cell? ⟨w1.heap.size, 0, none⟩ = some (.int .i64 tx) ∧ W.cell? ⟨w1.heap.size, 1, none⟩ = some (.int .i64 ta) ∧ W.cell? ⟨w1.heap.size, 2, none⟩ = some (.int .i64 tb)) := by
      intro W f
      have k3 := H1.out.n2 mb rfl
      have hml := MpN.lt H1.out.mp
      have b1 : Blk (w1.alloc (.cells #[.int .i64 tx, .int .i64 ta, .int .i64 tb] 54)) w1.heap.size 3 (fun i => if i = 0 then .int .i64 tx else if i = 1 then .int .i64 ta else .int .i64 tb) := Blk.new w1 _ 54 3 _ _ rfl rfl (fun i hi => by
        match i, hi with
        | 0, _ => rfl
        | 1, _ => rfl
        | 2, _ => rfl)
      have b2 := ((b1.drew).fr HFB.out (fun q => by omega)).fr f (fun q => q)
      have hd2 := ((H1.out.hd.fr HFA.out (fun q => q)).fr HFB.out (fun q => k3 q.symm)).fr f (fun q => q)
      exact ⟨hd2.cell (i := 0) (by omega), hd2.cell (i := 1) (by omega), b2.cell (i := 0) (by omega), b2.cell (i := 1) (by omega), b2.cell (i := 2) (by omega)⟩
    clear hmB fB fA
    go_region_held3 (fun w' => w'.cell? ⟨qb, 0, none⟩ = some (.slice va 0 vc) ∧ w'.cell? ⟨qb, 1, none⟩ = some (.map (some mb)) ∧ w'.cell? ⟨w1.heap.size, 0, none⟩ = some (.int .i64 tx))
      (first | (obtain ⟨z0, z1, z2, _⟩ := HSB.out _ (Fr.refl NoF wB); exact ⟨z0, z1, z2⟩) | exact HSA.out _ (by repeat (first | exact Fr.refl NoF _ | apply Fr.drew | apply Fr.drewN | apply Fr.alloc)))
      (fail)
    clear hrun
    obtain ⟨z0, z1, z2, z3, z4⟩ := HSB.out wB (Fr.refl NoF wB)
    have lbB : qb < wB.heap.size := by have := HFA.out.size; have := HFB.out.size; have := H1.out.hd.lt; omega
    have ltB : w1.heap.size < wB.heap.size := by have := HFB.out.size; simp at this; omega
    have HLI : Hid (SlF wB 54 3 (.slice va 0 vc) 0 (thF a)) := (H1.out.li.fr HFA.out (fun _ _ q => q)).fr HFB.out (fun b q e => by rw [e] at q; exact (H1.out.n1 mb q).2 rfl)
    have K : Hid (∀ pv' w2 W, Fr NoF wB W → SlF w2 54 3 pv' (0 + 1) (upd (upd (upd (thF a) (0 * 3) (.int .i64 tx)) (0 * 3 + 1) (.int .i64 ta)) (0 * 3 + 2) (.int .i64 tb)) → Fr (fun b => (Value.slice va 0 vc).ownBlock = some b) W w2 → (∀ b, pv'.ownBlock = some b → (Value.slice va 0 vc).ownBlock = some b ∨ W.heap.size ≤ b) →
        w2.cell? ⟨qb, 0, none⟩ = some (.slice va 0 vc) ∧ w2.frozen? ⟨qb, 0, none⟩ = false ∧ qb < w2.heap.size ∧
        Hid (HRq qb (w2.setCell ⟨qb, 0, none⟩ pv') (upd a 0 ⟨tx, ta, tb⟩) (0 + 1) (FQ qb pv' (some mb)) ∧ Fr (FQ qb (.slice va 0 vc) (some mb)) w1 (w2.setCell ⟨qb, 0, none⟩ pv') ∧ ∀ i, FQ qb pv' (some mb) i → FQ qb (.slice va 0 vc) (some mb) i ∨ w1.heap.size ≤ i)) := by
      intro pv' w2 W fW hs f ho
      have fz := fW.size
      exact H1.out.grown HOK.out ((HFA.out.mono (fun _ q => q.elim)).trans HFB.out (fun i q => .inl q)) HMB.out hs ((fW.mono (fun _ q => q.elim)).trans f (fun i q => .inl q)) (fun b q => (ho b q).imp id (fun q => by omega))
    go_wp2
    go_region_law (first
      | (refine appSB (base := 0) EIt rfl (.tmp 31) (.tmp 33) rfl (by rfl) (by rfl) (Nat.zero_le _) (own_keep HLI.out (by repeat (first | exact Fr.refl NoF _ | apply Fr.drew | apply Fr.drewN | apply Fr.alloc)) (fun _ _ q => q)) (sl_heap (size := 3) (n := 1) (cs := #[.int .i64 tx, .int .i64 ta, .int .i64 tb]) (by (try rw [heap_drew]); refine heap_alloc_new _ _ _ ?_; simp) (by rfl) (by unfold maxLen; omega) (by simp [Value.oneCell'])) (by unfold maxLen; omega) (by omega) ?_; intro v' w2 hown' hf' hob'; obtain ⟨a8, c8, rfl, _, _⟩ := (SlF.snoc3 hown').shape; obtain ⟨y0, y1, y2, KK⟩ := K.out _ w2 _ (by repeat (first | exact Fr.refl NoF _ | apply Fr.drew | apply Fr.drewN | apply Fr.alloc)) (SlF.snoc3 hown') hf' hob'; clear hown' hf' hob'))
    all_goals
      go_wp2
      go_returns
      obtain ⟨r1, r2, r3⟩ := KK.out
      exact ⟨rfl, _, r1, by have := HFIN.out _ _ r2 r3; rw [HMW.out]; exact this⟩
/-- The last thing is taken out. -/
theorem QC.cut {gb cap mb : Nat} (h : QC w qb a (n + 1) (.slice (some ⟨gb, 0, none⟩) (n + 1) cap) (some mb) g) {w1 w2 : World} (f1 : Fr (fun i => i = qb) w w1) (h1 : w1.heap[qb]? = (w.setCell ⟨qb, 0, none⟩ (.slice (some ⟨gb, 0, none⟩) n cap)).heap[qb]?) (f2 : Fr (fun i => i = mb) w1 w2) (hm : MpN Try.prog 3 3 .i64 .i64 w2 mb n (updI g (a n).x none)) :
    HRq qb w2 a n (FQ qb (.slice (some ⟨gb, 0, none⟩) (n + 1) cap) (some mb)) ∧ Fr (FQ qb (.slice (some ⟨gb, 0, none⟩) (n + 1) cap) (some mb)) w w2 := by
  have k3 := h.n2 mb rfl
  obtain ⟨k1, k2⟩ := h.n1 gb rfl
  have k2' : ¬ gb = mb := fun q => k2 (by rw [q])
  have hb := ((h.hd.set 0 (.slice (some ⟨gb, 0, none⟩) n cap)).ofHeap h1).fr f2 (fun q => k3 q.symm)
  refine ⟨⟨.slice (some ⟨gb, 0, none⟩) n cap, some mb, _, ⟨hb.congr (fun i hi => ?_), ((h.li.cut (m := n) (by omega)).fr f1 (fun b q e => k1 (by rw [e] at q; have := Option.some.inj q; omega))).fr f2 (fun b q e => k2' (by rw [e] at q; have := Option.some.inj q; omega)), hm, fun x k => ?_, fun k hk => h.ok k (by omega), fun b q => h.n1 b q, h.n2, by have := h.sm; omega⟩, fun i => Iff.rfl⟩, (f1.mono (fun i q => .inl q)).trans f2 (fun i q => .inl (.inr (.inr (by rw [q]))))⟩
  · match i, hi with
    | 0, _ => rfl
    | 1, _ => rfl
  · have hij := h.inj
    by_cases e : x = (a n).x
    · subst e
      rw [updI_same]
      constructor
      · intro q; cases q
      · rintro ⟨j, rfl, hj, q⟩
        have := hij j n (by omega) (by omega) q
        omega
    · rw [updI_other _ _ e, h.pl x k]
      constructor
      · rintro ⟨j, rfl, hj, q⟩
        refine ⟨j, rfl, ?_, q⟩
        have : ¬ j = n := fun e2 => e (by rw [← q, e2])
        omega
      · rintro ⟨j, rfl, hj, q⟩
        exact ⟨j, rfl, by omega, q⟩
set_option maxRecDepth 100000 in
set_option maxHeartbeats 4000000 in
theorem q_pop (h : QC w qb a (n + 1) lv mo g) : Calls Try.prog 69 #[.pointer (some ⟨qb, 0, none⟩)] w fun e w' => e = .returned (encT (a n)) ∧ HRq qb w' a n (FQ qb lv mo) ∧ Fr (FQ qb lv mo) w w' := by
  have hn := h.sm
  have c0 := h.c0
  have c1 := h.c1
  have f0 := h.hd.frozen 0
  have lb := h.hd.lt
  obtain ⟨gb, cap, rfl, h1, h2, h3, h4, i0, i1, i2⟩ := h.el (i := n) (by omega)
  cases mo with
  | none => have := h.mp.1; omega
  | some mb =>
    obtain ⟨k1, k2⟩ := h.n1 gb rfl
    have k3 := h.n2 mb rfl
    have hml := MpN.lt h.mp
    have HH := Lib.hid h
    have okn := (h.ok n (by omega)).1
    have OKN : Hid (i64 (a n).x) := okn
    have HEN : Hid (encT (a n) = .iface 54 (.agg #[.int .i64 (a n).x, .int .i64 (a n).a, .int .i64 (a n).b])) := rfl
    have e1 : ((n + 1 : Nat) : Int) - 1 = (n : Int) := by omega
    have HKF : Hid (∀ w1 w2, w1 = ((w.alloc (.cells #[.int .i64 (a n).x, .int .i64 (a n).a, .int .i64 (a n).b] 54)).setCell ⟨qb, 0, none⟩ (.slice (some ⟨gb, 0, none⟩) n cap)).drew ∨ w1 = ((w.setCell ⟨qb, 0, none⟩ (.slice (some ⟨gb, 0, none⟩) n cap)).alloc (.cells #[.int .i64 (a n).x, .int .i64 (a n).a, .int .i64 (a n).b] 54)).drew → MpN Try.prog 3 3 .i64 .i64 w1 mb (n + 1) g ∧ (MpN Try.prog 3 3 .i64 .i64 w2 mb (if (g (a n).x).isSome then n + 1 - 1 else n + 1) (updI g (a n).x none) → Fr (fun i => i = mb) w1 w2 → HRq qb w2 a n (FQ qb (.slice (some ⟨gb, 0, none⟩) (n + 1) cap) (some mb)) ∧ Fr (FQ qb (.slice (some ⟨gb, 0, none⟩) (n + 1) cap) (some mb)) w w2)) := by
      intro w1 w2 hw
      have hz : qb < w.heap.size := lb
      have fq : Fr (fun i => i = qb) w w1 := by
        rcases hw with rfl | rfl
        · exact (((Fr.refl (fun i => i = qb) w).alloc _).setCell (p := ⟨qb, 0, none⟩) (.inl rfl) _).drew
        · exact (((Fr.refl (fun i => i = qb) w).setCell (p := ⟨qb, 0, none⟩) (.inl rfl) _).alloc _).drew
      have hq : w1.heap[qb]? = (w.setCell ⟨qb, 0, none⟩ (.slice (some ⟨gb, 0, none⟩) n cap)).heap[qb]? := by
        rcases hw with rfl | rfl
        · show ((w.alloc _).setCell ⟨qb, 0, none⟩ _).heap[qb]? = _
          simp only [World.setCell, Array.getElem?_modify, if_true]
          rw [Below.heap_alloc w _ qb hz]
        · show ((w.setCell ⟨qb, 0, none⟩ _).alloc _).heap[qb]? = _
          rw [Below.heap_alloc _ _ qb (by simpa using hz)]
      refine ⟨MpN.fr HH.out.mp fq (fun q => k3 q), fun hm f2 => HH.out.cut fq hq f2 ?_⟩
      have hg : (g (a n).x).isSome = true := by rw [(HH.out.pl (a n).x (n : Int)).2 ⟨n, rfl, by omega, rfl⟩]; rfl
      rw [if_pos hg, Nat.add_sub_cancel] at hm
      exact hm
    rw [HEN.out]
    clear h okn HEN
    generalize hax : (a n).x = ix at *
    generalize (a n).a = ia at *
    generalize (a n).b = ib at *
    have HAX := Lib.hid hax
    clear hax
    go_enter Try.func69, Try.ntmps69
    go_wp2
    have hW : Hid (∀ W, W = ((w.setCell ⟨qb, 0, none⟩ (.slice (some ⟨gb, 0, none⟩) n cap)).alloc (.cells #[.int .i64 ix, .int .i64 ia, .int .i64 ib] 54)).drew → ∀ W', Fr (fun i => i = mb) W W' → W'.cell? ⟨qb, 1, none⟩ = some (.map (some mb)) ∧ W'.cell? ⟨w.heap.size, 0, none⟩ = some (.int .i64 ix) ∧ W'.cell? ⟨w.heap.size, 1, none⟩ = some (.int .i64 ia) ∧ W'.cell? ⟨w.heap.size, 2, none⟩ = some (.int .i64 ib)) := by
      rintro W rfl W' f
      have b1 : Blk ((w.setCell ⟨qb, 0, none⟩ (.slice (some ⟨gb, 0, none⟩) n cap)).alloc (.cells #[.int .i64 ix, .int .i64 ia, .int .i64 ib] 54)) w.heap.size 3 (fun i => if i = 0 then .int .i64 ix else if i = 1 then .int .i64 ia else .int .i64 ib) := Blk.new _ _ 54 3 _ _ (by simp) rfl (fun i hi => by
        match i, hi with
        | 0, _ => rfl
        | 1, _ => rfl
        | 2, _ => rfl)
      have b2 := b1.drew.fr f (fun q => by omega)
      have hb := ((((HH.out.hd.set 0 (.slice (some ⟨gb, 0, none⟩) n cap)).alloc (.cells #[.int .i64 ix, .int .i64 ia, .int .i64 ib] 54)).drew).fr f (fun q => k3 q.symm)).cell (i := 1) (by omega)
      exact ⟨hb, b2.cell (i := 0) (by omega), b2.cell (i := 1) (by omega), b2.cell (i := 2) (by omega)⟩
    have lt0 : w.heap.size < (((w.setCell ⟨qb, 0, none⟩ (.slice (some ⟨gb, 0, none⟩) n cap)).alloc (.cells #[.int .i64 ix, .int .i64 ia, .int .i64 ib] 54)).drew).heap.size := by simp
    go_region_held3 (fun w' => w'.cell? ⟨qb, 1, none⟩ = some (.map (some mb)) ∧ w'.cell? ⟨w.heap.size, 0, none⟩ = some (.int .i64 ix) ∧ w'.cell? ⟨w.heap.size, 1, none⟩ = some (.int .i64 ia) ∧ w'.cell? ⟨w.heap.size, 2, none⟩ = some (.int .i64 ib))
      (first | exact HWF.out | exact hW.out _ rfl _ (Fr.refl _ _))
      (first
        | (refine delS MIq (HKF.out _ w (.inr rfl)).1 rfl (.tmp 30) (.tmp 32) rfl (by rfl) (by rfl) OKN.out ?_; intro w9 hm9 f9; have HWF := Lib.hid (hW.out _ rfl w9 f9); have HEND := Lib.hid ((HKF.out _ w9 (.inr rfl)).2 hm9 f9); have lt9 : w.heap.size < w9.heap.size := Nat.lt_of_lt_of_le lt0 f9.size; clear hm9 f9))
    all_goals
      obtain ⟨y0, y1, y2, y3⟩ := HWF.out
      go_wp2
      go_returns
      exact ⟨rfl, HEND.out⟩
theorem q_sys (qb : Nat) : HeapSys ltT (HRq qb) ⟨qb, 0, none⟩ encT okT where
  fr := by
    rintro w w' a n F G ⟨lv, mo, g, h, hF⟩ f hG
    exact ⟨lv, mo, g, h.fr f (fun i q => hG i ((hF i).2 q)), hF⟩
  bd := by
    rintro w a n F ⟨lv, mo, g, h, hF⟩ i hi
    exact h.lt i ((hF i).1 hi)
  small := by
    rintro w a n F ⟨lv, mo, g, h, hF⟩
    exact h.sm
  len := by
    rintro w a n F ⟨lv, mo, g, h, hF⟩
    obtain ⟨ti, hti, hm⟩ := method_of (P := Try.prog) (t := 56) (name := "Len") (f := 22) (b := true) (by kernel_rfl)
    exact ⟨_, method_ptr hti hm Try.underlying56, (q_len h).mono fun e w' ⟨he, hw⟩ => ⟨he, hw ▸ Fr.refl _ _⟩⟩
  less := by
    rintro w a n F i j ⟨lv, mo, g, h, hF⟩ hi hj
    obtain ⟨ti, hti, hm⟩ := method_of (P := Try.prog) (t := 56) (name := "Less") (f := 68) (b := true) (by kernel_rfl)
    exact ⟨_, method_ptr hti hm Try.underlying56, q_less h hi hj⟩
  swap := by
    rintro w a n F i j ⟨lv, mo, g, h, hF⟩ hi hj
    obtain ⟨ti, hti, hm⟩ := method_of (P := Try.prog) (t := 56) (name := "Swap") (f := 71) (b := true) (by kernel_rfl)
    refine ⟨_, method_ptr hti hm Try.underlying56, (q_swap h hi hj).mono fun e w' ⟨he, ⟨lv', mo', g', h', hF'⟩, hf⟩ => ⟨he, ⟨lv', mo', g', h', fun i => (hF i).trans (hF' i)⟩, hf.mono (fun i q => (hF i).2 q)⟩⟩
  push := by
    rintro w a n F t ⟨lv, mo, g, h, hF⟩ ht
    obtain ⟨ti, hti, hm⟩ := method_of (P := Try.prog) (t := 56) (name := "Push") (f := 70) (b := true) (by kernel_rfl)
    refine ⟨_, method_ptr hti hm Try.underlying56, (q_push h ht).mono fun e w' ⟨he, F', h', hf, hF'⟩ => ⟨he, F', h', hf.mono (fun i q => (hF i).2 q), fun i q => (hF' i q).imp (fun q => (hF i).2 q) id⟩⟩
  pop := by
    rintro w a n F ⟨lv, mo, g, h, hF⟩
    obtain ⟨ti, hti, hm⟩ := method_of (P := Try.prog) (t := 56) (name := "Pop") (f := 69) (b := true) (by kernel_rfl)
    refine ⟨_, method_ptr hti hm Try.underlying56, (q_pop h).mono fun e w' ⟨he, ⟨lv', mo', g', h', hF'⟩, hf⟩ => ⟨he, ⟨lv', mo', g', h', fun i => (hF i).trans (hF' i)⟩, hf.mono (fun i q => (hF i).2 q)⟩⟩
end
end Go.Proofs.Ytpebonpibhdfoaa

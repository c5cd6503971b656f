/-
  A Disk in memory: Write, Alloc, Free.
-/
import Derived.Test.YtnideelidfpicaaGreatDoorK23
namespace Go.Proofs.YtnideelidfpicaaGreatDoor
open Go.RowKit Go.Maps
set_option linter.unusedVariables false

section
variable {w w' : World} {db c mb nf : Nat} {s : DS} {pv fv : Value} {fh : Nat → Nat} {F : Nat → Prop}
set_option maxHeartbeats 1000000 in
theorem dk_write (h : DC w db s c pv fv mb fh nf) {id : Nat} (hu : isU32 id) (v : Nat) (hwr : s.wr + 1 < 1000000000) : Calls Tryz.prog 93 #[.pointer (some ⟨db, 0, none⟩), .int .u32 id, .int .u64 v] w fun e w' => e = .returned (.int .i64 (s.write id v).1) ∧
    (∃ c', c' ≤ c ∧ DC w' db (s.write id v).2 c' pv fv mb fh nf) ∧ Fr (fun i => i = db ∨ i = mb ∨ pv.ownBlock = some i) w w' := by
  have HA := dk_attempt h hu true
  obtain ⟨a1, a2, a3, a4, a5⟩ := s.att_2 id true
  rcases s.att_1 id true with ⟨e, hh⟩ | e | e
  · have HE : Hid (s.write id v = (0, { (s.att id true).2 with wr := s.wr + 1, pg := upd s.pg (id - 1) ((s.pg (id - 1)).1, v) })) := by unfold Hid DS.write; rw [if_pos e]
    rw [HE.out]
    rw [e] at HA
    have hid : 1 ≤ id ∧ id ≤ s.np := by unfold DS.has at hh; simp at hh; omega
    have K : Hid (∀ w1 c1, DC w1 db (s.att id true).2 c1 pv fv mb fh nf → ∃ g cap, pv = .slice (some ⟨g, 0, none⟩) s.np cap ∧ ¬ g = db ∧ cap ≤ 9223372036854775807 ∧ s.np ≤ cap ∧ w1.cell? ⟨db, 7, none⟩ = some (.int .i64 s.wr) ∧ w1.cell? ⟨db, 1, none⟩ = some pv ∧ db < w1.heap.size ∧ g < w1.heap.size ∧ w1.frozen? ⟨db, 7, none⟩ = false ∧ w1.frozen? ⟨g, (id - 1) * 2 + 1, none⟩ = false ∧ w1.cell? ⟨g, (id - 1) * 2 + 1, none⟩ = some (.int .u64 (s.pg (id - 1)).2) ∧
        Hid (∀ z : Int, z = (s.wr : Int) + 1 → DC ((w1.setCell ⟨db, 7, none⟩ (.int .i64 z)).setCell ⟨g, (id - 1) * 2 + 1, none⟩ (.int .u64 v)) db { (s.att id true).2 with wr := s.wr + 1, pg := upd s.pg (id - 1) ((s.pg (id - 1)).1, v) } c1 pv fv mb fh nf ∧ Fr (fun k => k = db ∨ pv.ownBlock = some k) w1 ((w1.setCell ⟨db, 7, none⟩ (.int .i64 z)).setCell ⟨g, (id - 1) * 2 + 1, none⟩ (.int .u64 v)))) := by
      intro w1 c1 h1
      obtain ⟨g, cap, p1, p2, p3, p4, p5, p6⟩ := h1.po.at (by rw [a2]; omega)
      rw [a2] at p1 p2 p6
      have c7 : w1.cell? ⟨db, 7, none⟩ = some (.int .i64 (s.att id true).2.wr) := h1.ce 7 (by omega)
      rw [a5] at c7
      refine ⟨g, cap, p1, (h1.n1 g (by rw [p1]; rfl)).1, by unfold maxLen at p3; omega, p2, c7, h1.ce 1 (by omega), h1.hd.lt, p4, h1.hd.frozen 7, p5 _, ?_, ?_⟩
      · rw [p6 _ (by omega), pgF_1, a3]
      · rintro z rfl
        obtain ⟨h2, f2⟩ := h1.head 7 (.int .i64 ((s.wr + 1 : Nat) : Int)) (dH_7 _ pv fv mb (s.wr + 1)) rfl rfl rfl rfl ⟨h1.lr.1, h1.lr.2.1, hwr⟩
        obtain ⟨h3, f3⟩ := h2.value (k := id - 1) (p1.trans (by rw [a2])) (by show id - 1 < (s.att id true).2.np; rw [a2]; omega) v
        have h4 : DC ((w1.setCell ⟨db, 7, none⟩ (.int .i64 ((s.wr + 1 : Nat) : Int))).setCell ⟨g, (id - 1) * 2 + 1, none⟩ (.int .u64 v)) db { (s.att id true).2 with wr := s.wr + 1, pg := upd (s.att id true).2.pg (id - 1) (((s.att id true).2.pg (id - 1)).1, v) } c1 pv fv mb fh nf := h3
        rw [a3] at h4
        exact ⟨h4, (f2.mono (fun i q => .inl q)).trans f3 (fun i q => .inl (.inr (by rw [p1, q]; rfl)))⟩
    have HA2 := Lib.hid HA
    obtain ⟨k, rfl⟩ : ∃ k, id = k + 1 := ⟨id - 1, by omega⟩
    rw [show k + 1 - 1 = k from by omega] at *
    have hks : ((k + 1 : Nat) : Int) - 1 = (k : Int) := by omega
    have hkn : k < s.np := by omega
    generalize (s.pg k).2 = val at *
    have hnr := h.r2
    have hrr := h.r1
    clear h HA a1 a2 a3 a4 a5 e hh HE hu hid
    go_enter Tryz.func93, Tryz.ntmps93
    go_wp2_with fail
    refine HA2.out.mono ?_
    rintro e w1 ⟨rfl, ⟨c1, hc1, h1⟩, f1⟩
    obtain ⟨g, cap, hpv, hgd, hcap, hncap, c7, c1', lb, lg, fz, fg, cg, KK⟩ := K.out w1 c1 h1
    have HPV := Lib.hid hpv
    rw [hpv] at c1'
    have HF1 := Lib.hid f1
    have HC1 := Lib.hid hc1
    clear h1 f1 hc1 K HA2 hpv
    have hgd2 : ¬ db = g := fun e => hgd e.symm
    go_wp2
    go_returns
    obtain ⟨q1, q2⟩ := KK.out _ (by first | rfl | omega)
    exact ⟨rfl, ⟨c1, HC1.out, q1⟩, (HF1.out.mono (fun i q => by rcases q with q | q; exact .inl q; exact .inr (.inl q))).trans q2 (fun i q => .inl (by rcases q with q | q; exact .inl q; exact .inr (.inr q)))⟩
  · have HE : Hid (s.write id v = (3, (s.att id true).2)) := by unfold Hid DS.write; rw [if_neg (by omega), e]
    rw [HE.out]
    rw [e] at HA
    have HA2 := Lib.hid HA
    clear h HA a1 a2 a3 a4 a5 e HE hu
    go_enter Tryz.func93, Tryz.ntmps93
    go_wp2_with fail
    refine HA2.out.mono ?_
    rintro e w1 ⟨rfl, h1, f1⟩
    have H1 := Lib.hid h1
    have F1 := Lib.hid f1
    clear h1 f1 HA2
    go_wp2
    go_returns
    exact ⟨rfl, H1.out, F1.out.mono (fun i q => by rcases q with q | q; exact .inl q; exact .inr (.inl q))⟩
  · have HE : Hid (s.write id v = (7, (s.att id true).2)) := by unfold Hid DS.write; rw [if_neg (by omega), e]
    rw [HE.out]
    rw [e] at HA
    have HA2 := Lib.hid HA
    clear h HA a1 a2 a3 a4 a5 e HE hu
    go_enter Tryz.func93, Tryz.ntmps93
    go_wp2_with fail
    refine HA2.out.mono ?_
    rintro e w1 ⟨rfl, h1, f1⟩
    have H1 := Lib.hid h1
    have F1 := Lib.hid f1
    clear h1 f1 HA2
    go_wp2
    go_returns
    exact ⟨rfl, H1.out, F1.out.mono (fun i q => by rcases q with q | q; exact .inl q; exact .inr (.inl q))⟩

/-! ### Alloc -/
theorem EIp : EI Tryz.prog 56 104 2 16 := EI.mk' (z := .agg #[.bool false, .int .u64 0]) Tryz.underlying56 (by kernel_rfl) rfl (by decide)
set_option maxHeartbeats 1000000 in
theorem dk_alloc_full (h : DC w db s c pv fv mb fh 0) (hr : ¬ s.np < s.room) : Calls Tryz.prog 51 #[.pointer (some ⟨db, 0, none⟩)] w fun e w' => e = .returned (.tuple #[.int .u32 0, .int .i64 2]) ∧ ∃ d, w.drewN d = w' := by
  have c0 : w.cell? ⟨db, 0, none⟩ = some (.int .i64 s.room) := h.ce 0 (by omega)
  have c1 : w.cell? ⟨db, 1, none⟩ = some pv := h.ce 1 (by omega)
  have c2 : w.cell? ⟨db, 2, none⟩ = some fv := h.ce 2 (by omega)
  obtain ⟨va, vc, rfl, v1, v2⟩ := h.po.shape
  obtain ⟨fa, fc, rfl, _, _⟩ := h.fo.shape
  have hir : (s.room : Int) ≤ s.np := by omega
  have hr1 := h.r1
  have hr2 := h.r2
  unfold maxLen at v2
  clear h
  go_enter Tryz.func51, Tryz.ntmps51
  go_wp2
  go_quiet (fail)
  go_wp2
  go_returns
  exact ⟨rfl, _, rfl⟩
/-- A page more, at the end. -/
def DS.grow (s : DS) : DS := { s with np := s.np + 1, pg := upd s.pg s.np (true, 0) }
theorem DC.grow (h : DC w db s c pv fv mb fh nf) (hr : s.np < s.room) {pv' : Value} {w1 : World} (hs : SlF w1 104 2 pv' (s.np + 1) (upd (upd (pgF s.pg) (s.np * 2) (.bool true)) (s.np * 2 + 1) (.int .u64 0))) (f : Fr (fun b => pv.ownBlock = some b) w w1) (ho : ∀ b, pv'.ownBlock = some b → pv.ownBlock = some b ∨ w.heap.size ≤ b) :
    DC (w1.setCell ⟨db, 1, none⟩ pv') db s.grow c pv' fv mb fh nf ∧ Fr (fun i => i = db ∨ pv.ownBlock = some i) w (w1.setCell ⟨db, 1, none⟩ pv') := by
  have f2 : Fr (fun i => i = db) w1 (w1.setCell ⟨db, 1, none⟩ pv') := (Fr.refl (fun i => i = db) w1).setCell (p := ⟨db, 1, none⟩) (.inl rfl) _
  have f3 : Fr (fun i => i = db ∨ pv.ownBlock = some i) w (w1.setCell ⟨db, 1, none⟩ pv') := (f.mono (fun i q => .inr q)).trans f2 (fun i q => .inl (.inl q))
  have hl := h.hd.lt
  have hm := h.mp.lt
  have n1' : ∀ b, pv'.ownBlock = some b → ¬ b = db ∧ ¬ b = mb ∧ ¬ fv.ownBlock = some b := by
    intro b q
    rcases ho b q with q | q
    · exact h.n1 b q
    · exact ⟨by omega, by omega, fun q2 => by have := h.fo.lt b q2; omega⟩
  have hb1 := (h.hd.fr f (fun e => (h.n1 db e).1 rfl)).set 1 pv'
  have eh : upd (dH s pv fv mb) 1 pv' = dH s.grow pv' fv mb := by
    funext j
    match j with
    | 0 => rfl
    | 1 => rfl
    | 2 => rfl
    | 3 => rfl
    | 4 => rfl
    | 5 => rfl
    | 6 => rfl
    | 7 => rfl
    | j + 8 => simp [upd, dH]
  rw [eh] at hb1
  rw [show (Value.int .u64 0) = .int .u64 ((0 : Nat) : Int) from rfl, pgF_set] at hs
  refine ⟨⟨hb1, hs.fr f2 (fun b q e => (n1' b q).1 e), h.fo.fr f3 (fun b q e => by rcases e with e | e; exact (h.n2 b q).1 e; exact (h.n1 b e).2.2 q), h.mp.fr f3 (fun e => by rcases e with e | e; exact h.n3 e; exact (h.n1 mb e).2.1 rfl), n1', h.n2, h.n3, h.r1, by show s.np + 1 ≤ s.room; omega, h.hp, h.inj, by show nf ≤ s.np + 1; exact Nat.le_succ_of_le h.nn, fun x => ?_, h.ct, h.lr, h.fb⟩, f3⟩
  rw [h.fm x]
  show _ ↔ 1 ≤ x ∧ x ≤ s.np + 1 ∧ (upd s.pg s.np (true, 0) (x - 1)).1 = false
  by_cases e : x - 1 = s.np
  · rw [e, upd_same]
    constructor
    · intro q; omega
    · intro q; exact absurd q.2.2 (by simp)
  · rw [upd_other _ _ e]
    constructor
    · intro q; exact ⟨q.1, by omega, q.2.2⟩
    · intro q; exact ⟨q.1, by omega, q.2.2⟩
set_option maxHeartbeats 1000000 in
theorem dk_alloc_new (h : DC w db s c pv fv mb fh 0) (hr : s.np < s.room) : Calls Tryz.prog 51 #[.pointer (some ⟨db, 0, none⟩)] w fun e w' => e = .returned (.tuple #[.int .u32 (s.np + 1 : Nat), .int .i64 0]) ∧
    (∃ pv', DC w' db s.grow c pv' fv mb fh 0 ∧ ∀ b, pv'.ownBlock = some b → pv.ownBlock = some b ∨ w.heap.size ≤ b) ∧ Fr (fun i => i = db ∨ pv.ownBlock = some i) w w' := by
  have c0 : w.cell? ⟨db, 0, none⟩ = some (.int .i64 s.room) := h.ce 0 (by omega)
  have c1 : w.cell? ⟨db, 1, none⟩ = some pv := h.ce 1 (by omega)
  have c2 : w.cell? ⟨db, 2, none⟩ = some fv := h.ce 2 (by omega)
  obtain ⟨va, vc, rfl, v1, v2⟩ := h.po.shape
  obtain ⟨fa, fc, rfl, _, _⟩ := h.fo.shape
  have hr1 := h.r1
  have hr2 := h.r2
  have hri : (s.np : Int) < s.room := by omega
  have lb := h.hd.lt
  have hcv : IntKind.u32.wrap ((s.np + 1 : Nat) : Int) = ((s.np + 1 : Nat) : Int) := IntWalk.u32_in _ (by omega)
  unfold maxLen at v2
  have HP := Lib.hid h.po
  have K : Hid (∀ d pv' w2, SlF w2 104 2 pv' (s.np + 1) (upd (upd (pgF s.pg) (s.np * 2) (.bool true)) (s.np * 2 + 1) (.int .u64 0)) → Fr (fun b => (Value.slice va s.np vc).ownBlock = some b) ((w.drewN d).alloc (.cells #[.bool true, .int .u64 0] 104)) w2 → (∀ b, pv'.ownBlock = some b → (Value.slice va s.np vc).ownBlock = some b ∨ ((w.drewN d).alloc (.cells #[.bool true, .int .u64 0] 104)).heap.size ≤ b) →
      (∃ a8 c8, pv' = .slice a8 (s.np + 1 : Nat) c8) ∧ db < w2.heap.size ∧ w2.cell? ⟨db, 1, none⟩ = some (.slice va s.np vc) ∧ w2.frozen? ⟨db, 1, none⟩ = false ∧
      Hid ((∃ pv'', DC (w2.setCell ⟨db, 1, none⟩ pv') db s.grow c pv'' (.slice fa 0 fc) mb fh 0 ∧ ∀ b, pv''.ownBlock = some b → (Value.slice va s.np vc).ownBlock = some b ∨ w.heap.size ≤ b) ∧ Fr (fun i => i = db ∨ (Value.slice va s.np vc).ownBlock = some i) w (w2.setCell ⟨db, 1, none⟩ pv')) ∧
      (w2.setCell ⟨db, 1, none⟩ pv').cell? ⟨db, 1, none⟩ = some pv') := by
    intro d pv' w2 hs f hob
    have f0 : Fr (fun b => (Value.slice va s.np vc).ownBlock = some b) w w2 := Fr.trans (Fr.none (((Fr.refl NoF w).drewN d).alloc _)) f (fun i q => .inl q)
    have ho : ∀ b, pv'.ownBlock = some b → (Value.slice va s.np vc).ownBlock = some b ∨ w.heap.size ≤ b := fun b q => (hob b q).imp id (fun q => by simp at q; omega)
    obtain ⟨g1, g2⟩ := h.grow hr hs f0 ho
    obtain ⟨a8, c8, e, _, _⟩ := hs.shape
    have hb2 := h.hd.fr f0 (fun e => (h.n1 db e).1 rfl)
    exact ⟨⟨a8, c8, e⟩, hb2.lt, hb2.cell (i := 1) (by omega), hb2.frozen 1, ⟨⟨pv', g1, ho⟩, g2⟩, g1.ce 1 (by omega)⟩
  clear h
  go_enter Tryz.func51, Tryz.ntmps51
  go_wp2
  go_quiet (fail)
  go_wp2_with (at_builtin; go_must (refine appLB (base := 0) EIp rfl _ _ rfl (by rfl) (by rfl) (Nat.zero_le _) (own_keep HP.out (by repeat (first | exact Fr.refl NoF _ | apply Fr.drewN | apply Fr.alloc)) (fun _ _ q => q)) (sl_heap (size := 2) (n := 1) (cs := #[.bool true, .int .u64 0]) (heap_alloc_new _ _ _ (by simp)) (by rfl) (by unfold maxLen; omega) (by simp [Value.oneCell'])) (by unfold maxLen; omega) (by omega) ?_); intro v' w2 hown' hf' hob'; obtain ⟨⟨a8, c8, rfl⟩, k2, k3, k4, k5, k6⟩ := K.out _ _ w2 (SlF.snoc2 hown') hf' hob'; clear hown' hf' hob')
  go_returns
  exact ⟨by first | rfl | (rw [← hcv]), k5.out⟩
end
end Go.Proofs.YtnideelidfpicaaGreatDoor

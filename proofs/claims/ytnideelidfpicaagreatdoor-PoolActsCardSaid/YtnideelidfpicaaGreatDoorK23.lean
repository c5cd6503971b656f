/-
  A Disk in memory: New, Read, Write.
-/
import Derived.Test.YtnideelidfpicaaGreatDoorK22
import Derived.Deep.LoopGhost
namespace Go.Proofs.YtnideelidfpicaaGreatDoor
open Go.RowKit Go.Maps
set_option linter.unusedVariables false

/-- The empty disk. -/
def dk0 (room : Nat) : DS := ⟨room, 0, fun _ => (false, 0), fun _ => 0, false, 0, 0, 0⟩
theorem flM_zero : flM (fun _ => 0) = fun _ => none := by funext k; rfl
theorem dk_new_no (room : Int) (w : World) (h : room < 1 ∨ 65535 < room) : Calls Tryz.prog 4 #[.int .i64 room] w fun e w' => e = .returned (.tuple #[.pointer none, .int .i64 1]) ∧ w = w' := by
  by_cases h1 : room < 1
  · clear h
    go_enter Tryz.func4, Tryz.ntmps4
    go_wp2
    go_returns
    exact ⟨rfl, rfl⟩
  · have h2 : 65535 < room := by omega
    have h3 : 1 ≤ room := by omega
    clear h
    go_enter Tryz.func4, Tryz.ntmps4
    go_wp2
    go_returns
    exact ⟨rfl, rfl⟩
set_option maxHeartbeats 1000000 in
theorem dk_new_yes (room : Nat) (w : World) (h1 : 1 ≤ room) (h2 : room ≤ 65535) : Calls Tryz.prog 4 #[.int .i64 room] w fun e w' => ∃ db pv fv mb, e = .returned (.tuple #[.pointer (some ⟨db, 0, none⟩), .int .i64 0]) ∧ DC w' db (dk0 room) 0 pv fv mb (fun _ => 0) 0 ∧ (∀ i, FD db pv fv mb i → w.heap.size ≤ i) ∧ Fr NoF w w' := by
  have hmm := @run_makeMap Tryz.prog
  have K : Hid (∀ wz : World, wz = (w.alloc (.map #[] 0)).alloc (.cells #[.int .i64 room, .slice none 0 0, .slice none 0 0, .map (some w.heap.size), .bool false, .int .i64 0, .int .i64 0, .int .i64 0] 60) → ∀ db, db = w.heap.size + 1 → DC wz db (dk0 room) 0 (.slice none 0 0) (.slice none 0 0) w.heap.size (fun _ => 0) 0 ∧ Fr NoF w wz) := by
    rintro wz rfl db rfl
    refine ⟨⟨⟨_, _, heap_alloc_new _ _ _ (by simp), rfl, fun i hi => ?_⟩, SlF.nil _ _ _ _, SlF.nil _ _ _ _, ?_, fun b q => (by cases q), fun b q => (by cases q), by omega, ⟨h1, h2⟩, Nat.zero_le _, fun k _ q => (by omega), fun k m q => (by omega), Nat.le_refl _, fun x => ⟨fun ⟨k, q, _⟩ => (by omega), fun ⟨q1, q2, _⟩ => (by have : x ≤ 0 := q2; omega)⟩, by omega, ⟨by show isI63 0; unfold isI63; omega, by show (0 : Nat) < _; omega, by show (0 : Nat) < _; omega⟩, fun a => by show isI63 0; unfold isI63; omega⟩, ((Fr.refl NoF w).alloc _).alloc _⟩
    · match i, hi with
      | 0, _ => rfl
      | 1, _ => rfl
      | 2, _ => rfl
      | 3, _ => rfl
      | 4, _ => rfl
      | 5, _ => rfl
      | 6, _ => rfl
      | 7, _ => rfl
    · have hm : MpK Tryz.prog 111 3 .i64 okA klA (w.alloc (.map #[] 0)) w.heap.size 0 (flM (fun _ => 0)) := by rw [flM_zero]; exact MpK.made _ _ _ _ _ _ w
      exact hm.fr ((Fr.refl NoF _).alloc _) (fun q => q)
  go_enter Tryz.func4, Tryz.ntmps4
  go_wp2
  go_returns
  obtain ⟨h, f⟩ := K.out _ rfl _ rfl
  refine ⟨w.heap.size + 1, _, _, _, rfl, h, fun i q => ?_, f⟩
  rcases q with q | q | q | q
  · omega
  · omega
  · cases q
  · cases q

section
variable {w w' : World} {db c mb nf : Nat} {s : DS} {pv fv : Value} {fh : Nat → Nat} {F : Nat → Prop}
theorem DS.att_1 (s : DS) (id : Nat) (b : Bool) : (s.att id b).1 = 0 ∧ s.has id = true ∨ (s.att id b).1 = 3 ∨ (s.att id b).1 = 7 := by
  unfold DS.att
  split
  · rename_i q
    split
    · exact .inr (.inr rfl)
    · split
      · exact .inr (.inr rfl)
      · exact .inl ⟨rfl, q⟩
  · exact .inr (.inl rfl)
theorem DS.att_2 (s : DS) (id : Nat) (b : Bool) : (s.att id b).2.room = s.room ∧ (s.att id b).2.np = s.np ∧ (s.att id b).2.pg = s.pg ∧ (s.att id b).2.rd = s.rd ∧ (s.att id b).2.wr = s.wr := by
  unfold DS.att
  split
  · split
    · exact ⟨rfl, rfl, rfl, rfl, rfl⟩
    · split
      · exact ⟨rfl, rfl, rfl, rfl, rfl⟩
      · dsimp only
        split <;> exact ⟨rfl, rfl, rfl, rfl, rfl⟩
  · exact ⟨rfl, rfl, rfl, rfl, rfl⟩
def DS.read (s : DS) (id : Nat) : (Nat × Nat) × DS := if (s.att id false).1 = 0 then (((s.pg (id - 1)).2, 0), { (s.att id false).2 with rd := s.rd + 1 }) else ((0, (s.att id false).1), (s.att id false).2)
def DS.write (s : DS) (id v : Nat) : Nat × DS := if (s.att id true).1 = 0 then (0, { (s.att id true).2 with wr := s.wr + 1, pg := upd s.pg (id - 1) ((s.pg (id - 1)).1, v) }) else ((s.att id true).1, (s.att id true).2)
/-- What a page holds is written. -/
theorem DC.value {g cap : Nat} (h : DC w db s c pv fv mb fh nf) (hpv : pv = .slice (some ⟨g, 0, none⟩) s.np cap) {k : Nat} (hk : k < s.np) (v : Nat) : DC (w.setCell ⟨g, k * 2 + 1, none⟩ (.int .u64 v)) db { s with pg := upd s.pg k ((s.pg k).1, v) } c pv fv mb fh nf ∧ Fr (fun i => i = g) w (w.setCell ⟨g, k * 2 + 1, none⟩ (.int .u64 v)) := by
  subst hpv
  have f : Fr (fun i => i = g) w (w.setCell ⟨g, k * 2 + 1, none⟩ (.int .u64 v)) := (Fr.refl (fun i => i = g) w).setCell (p := ⟨g, k * 2 + 1, none⟩) (.inl rfl) _
  obtain ⟨n1, n2, n3⟩ := h.n1 g rfl
  have hs := h.po.set (i := k * 2 + 1) (by omega) (.int .u64 v)
  rw [pgF_set1] at hs
  refine ⟨⟨h.hd.fr f (fun e => n1 e.symm), hs, h.fo.fr f (fun b q e => n3 (by rw [← e]; exact q)), h.mp.fr f (fun e => n2 e.symm), h.n1, h.n2, h.n3, h.r1, h.r2, h.hp, h.inj, h.nn, fun x => ?_, h.ct, h.lr, h.fb⟩, f⟩
  rw [h.fm x]
  have e : (upd s.pg k ((s.pg k).1, v) (x - 1)).1 = (s.pg (x - 1)).1 := by
    unfold upd; split
    · rename_i q; rw [q]
    · rfl
  show _ ↔ 1 ≤ x ∧ x ≤ s.np ∧ (upd s.pg k ((s.pg k).1, v) (x - 1)).1 = false
  rw [e]
set_option maxHeartbeats 1000000 in
theorem dk_read (h : DC w db s c pv fv mb fh nf) {id : Nat} (hu : isU32 id) (hrd : s.rd + 1 < 1000000000) : Calls Tryz.prog 46 #[.pointer (some ⟨db, 0, none⟩), .int .u32 id] w fun e w' => e = .returned (.tuple #[.int .u64 (s.read id).1.1, .int .i64 (s.read id).1.2]) ∧
    (∃ c', c' ≤ c ∧ DC w' db (s.read id).2 c' pv fv mb fh nf) ∧ Fr (fun i => i = db ∨ i = mb) w w' := by
  have HA := dk_attempt h hu false
  obtain ⟨a1, a2, a3, a4, a5⟩ := s.att_2 id false
  rcases s.att_1 id false with ⟨e, hh⟩ | e | e
  · have HE : Hid (s.read id = (((s.pg (id - 1)).2, 0), { (s.att id false).2 with rd := s.rd + 1 })) := by unfold Hid DS.read; rw [if_pos e]
    rw [HE.out]
    rw [e] at HA
    have hid : 1 ≤ id ∧ id ≤ s.np := by unfold DS.has at hh; simp at hh; omega
    have K : Hid (∀ w1 c1, DC w1 db (s.att id false).2 c1 pv fv mb fh nf → ∃ g cap, pv = .slice (some ⟨g, 0, none⟩) s.np cap ∧ ¬ g = db ∧ cap ≤ 9223372036854775807 ∧ s.np ≤ cap ∧ w1.cell? ⟨db, 6, none⟩ = some (.int .i64 s.rd) ∧ w1.cell? ⟨db, 1, none⟩ = some pv ∧ db < w1.heap.size ∧ g < w1.heap.size ∧ w1.frozen? ⟨db, 6, none⟩ = false ∧ w1.cell? ⟨g, (id - 1) * 2 + 1, none⟩ = some (.int .u64 (s.pg (id - 1)).2) ∧
        Hid (∀ z : Int, z = (s.rd : Int) + 1 → DC (w1.setCell ⟨db, 6, none⟩ (.int .i64 z)) db { (s.att id false).2 with rd := s.rd + 1 } c1 pv fv mb fh nf ∧ Fr (fun k => k = db) w1 (w1.setCell ⟨db, 6, none⟩ (.int .i64 z)))) := by
      intro w1 c1 h1
      obtain ⟨g, cap, p1, p2, p3, p4, p5, p6⟩ := h1.po.at (by rw [a2]; omega)
      rw [a2] at p1 p2 p6
      have c6 : w1.cell? ⟨db, 6, none⟩ = some (.int .i64 (s.att id false).2.rd) := h1.ce 6 (by omega)
      rw [a4] at c6
      refine ⟨g, cap, p1, (h1.n1 g (by rw [p1]; rfl)).1, by unfold maxLen at p3; omega, p2, c6, h1.ce 1 (by omega), h1.hd.lt, p4, h1.hd.frozen 6, ?_, ?_⟩
      · rw [p6 _ (by omega), pgF_1, a3]
      · rintro z rfl
        exact h1.head 6 (.int .i64 ((s.rd + 1 : Nat) : Int)) (dH_6 _ pv fv mb (s.rd + 1)) rfl rfl rfl rfl ⟨h1.lr.1, hrd, h1.lr.2.2⟩
    have HA2 := Lib.hid HA
    obtain ⟨k, rfl⟩ : ∃ k, id = k + 1 := ⟨id - 1, by omega⟩
    rw [show k + 1 - 1 = k from by omega] at *
    have hks : ((k + 1 : Nat) : Int) - 1 = (k : Int) := by omega
    have hkn : k < s.np := by omega
    generalize (s.pg k).2 = val at *
    have hnr := h.r2
    have hrr := h.r1
    clear h HA a1 a2 a3 a4 a5 e hh HE hu hid
    go_enter Tryz.func46, Tryz.ntmps46
    go_wp2_with fail
    refine HA2.out.mono ?_
    rintro e w1 ⟨rfl, ⟨c1, hc1, h1⟩, f1⟩
    obtain ⟨g, cap, hpv, hgd, hcap, hncap, c6, c1', lb, lg, fz, cg, KK⟩ := K.out w1 c1 h1
    have HPV := Lib.hid hpv
    rw [hpv] at c1'
    have HF1 := Lib.hid f1
    have HC1 := Lib.hid hc1
    clear h1 f1 hc1 K HA2 hpv
    have hgd2 : ¬ db = g := fun e => hgd e.symm
    go_wp2
    go_returns
    obtain ⟨q1, q2⟩ := KK.out _ (by first | rfl | omega)
    exact ⟨rfl, ⟨c1, HC1.out, q1⟩, HF1.out.trans q2 (fun i q => .inl (.inl q))⟩
  · have HE : Hid (s.read id = ((0, 3), (s.att id false).2)) := by unfold Hid DS.read; rw [if_neg (by omega), e]
    rw [HE.out]
    rw [e] at HA
    have HA2 := Lib.hid HA
    clear h HA a1 a2 a3 a4 a5 e HE hu
    go_enter Tryz.func46, Tryz.ntmps46
    go_wp2_with fail
    refine HA2.out.mono ?_
    rintro e w1 ⟨rfl, h1⟩
    have H1 := Lib.hid h1
    clear h1 HA2
    go_wp2
    go_returns
    exact ⟨rfl, H1.out⟩
  · have HE : Hid (s.read id = ((0, 7), (s.att id false).2)) := by unfold Hid DS.read; rw [if_neg (by omega), e]
    rw [HE.out]
    rw [e] at HA
    have HA2 := Lib.hid HA
    clear h HA a1 a2 a3 a4 a5 e HE hu
    go_enter Tryz.func46, Tryz.ntmps46
    go_wp2_with fail
    refine HA2.out.mono ?_
    rintro e w1 ⟨rfl, h1⟩
    have H1 := Lib.hid h1
    clear h1 HA2
    go_wp2
    go_returns
    exact ⟨rfl, H1.out⟩
end
end Go.Proofs.YtnideelidfpicaaGreatDoor

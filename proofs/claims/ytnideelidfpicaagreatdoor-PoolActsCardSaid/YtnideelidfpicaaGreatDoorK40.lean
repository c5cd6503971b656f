/-
  Both Disks in memory, apart from one another, beside a block of the caller's; what each call leaves.
-/
import Derived.Test.YtnideelidfpicaaGreatDoorK39
namespace Go.Proofs.YtnideelidfpicaaGreatDoor
open Go.RowKit Go.Maps
set_option linter.unusedVariables false

structure TwoI (w0 w : World) (db rb : Nat) (s : DS) (r : RS) (m m' c : Nat) (pv fv : Value) (mb : Nat) (fh : Nat → Nat) (nf : Nat) (lv nv sv : Value) : Prop where
  d : DC w db s c pv fv mb fh nf
  e : RC w rb r lv nv sv
  sep : ∀ i, FD db pv fv mb i → ¬ FR rb lv nv sv i
  bd : c ≤ m ∧ s.rd ≤ m ∧ s.wr ≤ m
  be : r.nr.length ≤ m' ∧ r.ns.length ≤ m' ∧ r.rd ≤ m' ∧ r.wr ≤ m' ∧ -(m' : Int) ≤ r.left
  bl : isI63 r.left.toNat
  od : ∀ i, FD db pv fv mb i → w0.heap.size ≤ i
  oe : w0.heap.size ≤ rb
  f : Fr NoF w0 w
def TwoE (w0 w : World) (db rb : Nat) (s : DS) (r : RS) (m m' : Nat) : Prop := ∃ c pv fv mb fh nf lv nv sv, TwoI w0 w db rb s r m m' c pv fv mb fh nf lv nv sv
def TwoB (w0 w : World) (db rb : Nat) (s : DS) (r : RS) (m m' ob : Nat) (oc : Nat → Value) : Prop := ∃ c pv fv mb fh nf lv nv sv, TwoI w0 w db rb s r m m' c pv fv mb fh nf lv nv sv ∧ Blk w ob 5 oc ∧ ¬ FD db pv fv mb ob ∧ ¬ FR rb lv nv sv ob

section
variable {w0 w w' w1 : World} {db rb m m' c mb nf ob : Nat} {s s1 : DS} {r r1 : RS} {pv fv lv nv sv : Value} {fh : Nat → Nat} {oc : Nat → Value}
theorem RC.lt (h : RC w rb r lv nv sv) : ∀ i, FR rb lv nv sv i → i < w.heap.size := by
  rintro i (q | q | q | q)
  · rw [q]; exact h.hd.lt
  · exact SlC.lt h.hl i q
  · exact SlC.lt h.hn i q
  · exact SlC.lt h.hs i q
theorem TwoI.fr0 (h : TwoI w0 w db rb s r m m' c pv fv mb fh nf lv nv sv) (f : Fr NoF w w') : TwoI w0 w' db rb s r m m' c pv fv mb fh nf lv nv sv :=
  ⟨h.d.fr0 f, h.e.fr0 f, h.sep, h.bd, h.be, h.bl, h.od, h.oe, h.f.trans f (fun _ q => q.elim)⟩
theorem TwoE.fr0 (h : TwoE w0 w db rb s r m m') (f : Fr NoF w w') : TwoE w0 w' db rb s r m m' := by
  obtain ⟨c, pv, fv, mb, fh, nf, lv, nv, sv, h⟩ := h
  exact ⟨c, pv, fv, mb, fh, nf, lv, nv, sv, h.fr0 f⟩
theorem TwoE.more (h : TwoE w0 w db rb s r m m') {k k' : Nat} (h1 : m ≤ k) (h2 : m' ≤ k') : TwoE w0 w db rb s r k k' := by
  obtain ⟨c, pv, fv, mb, fh, nf, lv, nv, sv, h⟩ := h
  obtain ⟨b1, b2, b3⟩ := h.bd
  obtain ⟨e1, e2, e3, e4, e5⟩ := h.be
  exact ⟨c, pv, fv, mb, fh, nf, lv, nv, sv, h.d, h.e, h.sep, ⟨by omega, by omega, by omega⟩, ⟨by omega, by omega, by omega, by omega, by omega⟩, h.bl, h.od, h.oe, h.f⟩
theorem TwoB.fr0 (h : TwoB w0 w db rb s r m m' ob oc) (f : Fr NoF w w') : TwoB w0 w' db rb s r m m' ob oc := by
  obtain ⟨c, pv, fv, mb, fh, nf, lv, nv, sv, h, hb, h1, h2⟩ := h
  exact ⟨c, pv, fv, mb, fh, nf, lv, nv, sv, h.fr0 f, hb.fr f (fun q => q), h1, h2⟩
theorem TwoB.e (h : TwoB w0 w db rb s r m m' ob oc) : TwoE w0 w db rb s r m m' := by
  obtain ⟨c, pv, fv, mb, fh, nf, lv, nv, sv, h, hb, h1, h2⟩ := h
  exact ⟨c, pv, fv, mb, fh, nf, lv, nv, sv, h⟩
theorem TwoB.cell (h : TwoB w0 w db rb s r m m' ob oc) (f : Fr NoF w w') {i : Nat} (hi : i < 5) : w'.cell? ⟨ob, i, none⟩ = some (oc i) := by
  obtain ⟨c, pv, fv, mb, fh, nf, lv, nv, sv, h, hb, h1, h2⟩ := h
  exact (hb.fr f (fun q => q)).cell hi
/-- A block of the caller's is laid beside. -/
theorem TwoE.with (h : TwoE w0 w db rb s r m m') (hb : Blk w' ob 5 oc) (f : Fr NoF w w') (ho : w.heap.size ≤ ob) : TwoB w0 w' db rb s r m m' ob oc := by
  obtain ⟨c, pv, fv, mb, fh, nf, lv, nv, sv, h⟩ := h
  exact ⟨c, pv, fv, mb, fh, nf, lv, nv, sv, h.fr0 f, hb, fun q => by have := h.d.lt ob q; omega, fun q => by have := h.e.lt ob q; omega⟩
/-- A call of the disk. -/
theorem TwoI.code (h : TwoI w0 w db rb s r m m' c pv fv mb fh nf lv nv sv) (hb : Blk w ob 5 oc) (g1 : ¬ FD db pv fv mb ob) (g2 : ¬ FR rb lv nv sv ob) {c1 nf1 m1 mb1 : Nat} {pv1 fv1 : Value} {fh1 : Nat → Nat} {G : Nat → Prop} (hd : DC w1 db s1 c1 pv1 fv1 mb1 fh1 nf1) (f : Fr G w w1) (hG : ∀ i, G i → FD db pv fv mb i) (hF : ∀ i, FD db pv1 fv1 mb1 i → FD db pv fv mb i ∨ w.heap.size ≤ i) (hbd : c1 ≤ m1 ∧ s1.rd ≤ m1 ∧ s1.wr ≤ m1) :
    TwoB w0 w1 db rb s1 r m1 m' ob oc := by
  have lo := hb.lt
  refine ⟨c1, pv1, fv1, mb1, fh1, nf1, lv, nv, sv, ⟨hd, h.e.fr f (fun q => h.sep rb (hG rb q) (.inl rfl)) (fun i q k => h.sep i (hG i k) (.inr q)), fun i q k => ?_, hbd, h.be, h.bl, fun i q => ?_, h.oe, h.f.trans f (fun i q => .inr (h.od i (hG i q)))⟩, hb.fr f (fun q => g1 (hG ob q)), fun q => ?_, g2⟩
  · rcases hF i q with q | q
    · exact h.sep i q k
    · have := h.e.lt i k; omega
  · rcases hF i q with q | q
    · exact h.od i q
    · exact Nat.le_trans h.f.size q
  · rcases hF ob q with q | q
    · exact g1 q
    · omega
/-- A call of the document's. -/
theorem TwoI.ref (h : TwoI w0 w db rb s r m m' c pv fv mb fh nf lv nv sv) (hb : Blk w ob 5 oc) (g1 : ¬ FD db pv fv mb ob) (g2 : ¬ FR rb lv nv sv ob) {m1 : Nat} {lv1 nv1 sv1 : Value} (he : RC w1 rb r1 lv1 nv1 sv1) (f : Fr (fun k => k = rb) w w1) (hF : ∀ i, FR rb lv1 nv1 sv1 i → FR rb lv nv sv i ∨ w.heap.size ≤ i) (hbe : r1.nr.length ≤ m1 ∧ r1.ns.length ≤ m1 ∧ r1.rd ≤ m1 ∧ r1.wr ≤ m1 ∧ -(m1 : Int) ≤ r1.left) (hbl : isI63 r1.left.toNat) :
    TwoB w0 w1 db rb s r1 m m1 ob oc := by
  have lo := hb.lt
  refine ⟨c, pv, fv, mb, fh, nf, lv1, nv1, sv1, ⟨h.d.fr f (fun i q k => h.sep i q (.inl k)), he, fun i q k => ?_, h.bd, hbe, hbl, h.od, h.oe, h.f.trans f (fun i q => .inr (by rw [q]; exact h.oe))⟩, hb.fr f (fun q => g2 (.inl q)), g1, fun q => ?_⟩
  · rcases hF i k with k | k
    · exact h.sep i q k
    · have := h.d.lt i q; omega
  · rcases hF ob q with q | q
    · exact g2 q
    · omega

/-! ### Bounds -/
theorem DS.read_b (s : DS) (id : Nat) : (s.read id).2.rd ≤ s.rd + 1 ∧ (s.read id).2.wr = s.wr := by
  obtain ⟨a1, a2, a3, a4, a5⟩ := s.att_2 id false
  unfold DS.read
  split
  · exact ⟨Nat.le_refl _, a5⟩
  · exact ⟨by show (s.att id false).2.rd ≤ _; omega, a5⟩
theorem DS.write_b (s : DS) (id v : Nat) : (s.write id v).2.rd = s.rd ∧ (s.write id v).2.wr ≤ s.wr + 1 := by
  obtain ⟨a1, a2, a3, a4, a5⟩ := s.att_2 id true
  unfold DS.write
  split
  · exact ⟨a4, Nat.le_refl _⟩
  · exact ⟨a4, by show (s.att id true).2.wr ≤ _; omega⟩
theorem DS.fail_b (s : DS) (id : Nat) (b : Bool) (x : Nat) : (s.fail id b x).rd = s.rd ∧ (s.fail id b x).wr = s.wr := by unfold DS.fail; split <;> exact ⟨rfl, rfl⟩
/-- What is left may be one less. -/
def leftB (a b : Int) : Prop := a = b ∨ a = b - 1
theorem RS.read_b (r : RS) (id : Nat) : (r.read id).2.nr.length = r.nr.length ∧ (r.read id).2.ns = r.ns ∧ (r.read id).2.rd ≤ r.rd + 1 ∧ (r.read id).2.wr = r.wr ∧ leftB (r.read id).2.left r.left := by
  unfold RS.read
  split
  · exact ⟨rfl, rfl, Nat.le_succ _, rfl, .inl rfl⟩
  · split
    · exact ⟨rfl, rfl, Nat.le_succ _, rfl, .inl rfl⟩
    · split
      · exact ⟨failsP_len _ _, rfl, Nat.le_succ _, rfl, .inl rfl⟩
      · exact ⟨rfl, rfl, Nat.le_refl _, rfl, .inr rfl⟩
theorem RS.write_b (r : RS) (id v : Nat) : (r.write id v).2.nr = r.nr ∧ (r.write id v).2.ns.length = r.ns.length ∧ (r.write id v).2.rd = r.rd ∧ (r.write id v).2.wr ≤ r.wr + 1 ∧ leftB (r.write id v).2.left r.left := by
  unfold RS.write
  split
  · exact ⟨rfl, rfl, rfl, Nat.le_succ _, .inl rfl⟩
  · split
    · exact ⟨rfl, rfl, rfl, Nat.le_succ _, .inl rfl⟩
    · split
      · exact ⟨rfl, failsP_len _ _, rfl, Nat.le_succ _, .inl rfl⟩
      · exact ⟨rfl, rfl, rfl, Nat.le_refl _, .inr rfl⟩
theorem left_keep {a b : Int} (h : leftB a b) (hb : isI63 b.toNat) : isI63 a.toNat := by
  unfold isI63 at *
  rcases h with h | h
  · rw [h]; exact hb
  · have : a.toNat ≤ b.toNat := by omega
    omega
theorem left_is {b : Int} {m : Nat} (h : -(m : Int) ≤ b) (hm : m < 100000) (hb : isI63 b.toNat) : isLeft (b - 1) := by
  unfold isI63 at hb
  unfold isLeft
  omega

/-! ### The disk's calls -/
theorem tw_read_d (h : TwoB w0 w db rb s r m m' ob oc) (hm : m < 100000) {id : Nat} (hu : isU32 id) : Calls Tryz.prog 46 #[.pointer (some ⟨db, 0, none⟩), .int .u32 id] w fun e w' => e = .returned (.tuple #[.int .u64 (s.read id).1.1, .int .i64 (s.read id).1.2]) ∧ TwoB w0 w' db rb (s.read id).2 r (m + 1) m' ob oc := by
  obtain ⟨c, pv, fv, mb, fh, nf, lv, nv, sv, h, hb, g1, g2⟩ := h
  obtain ⟨b1, b2, b3⟩ := h.bd
  obtain ⟨r1, r2⟩ := s.read_b id
  refine (dk_read h.d hu (by omega)).mono ?_
  rintro e w' ⟨he, ⟨c', hc, hd⟩, f⟩
  exact ⟨he, h.code hb g1 g2 hd f (fun i q => q.elim .inl (fun q => .inr (.inl q))) (fun i q => .inl q) ⟨by omega, by omega, by omega⟩⟩
theorem tw_write_d (h : TwoB w0 w db rb s r m m' ob oc) (hm : m < 100000) {id : Nat} (hu : isU32 id) (v : Nat) : Calls Tryz.prog 93 #[.pointer (some ⟨db, 0, none⟩), .int .u32 id, .int .u64 v] w fun e w' => e = .returned (.int .i64 (s.write id v).1) ∧ TwoB w0 w' db rb (s.write id v).2 r (m + 1) m' ob oc := by
  obtain ⟨c, pv, fv, mb, fh, nf, lv, nv, sv, h, hb, g1, g2⟩ := h
  obtain ⟨b1, b2, b3⟩ := h.bd
  obtain ⟨r1, r2⟩ := s.write_b id v
  refine (dk_write h.d hu v (by omega)).mono ?_
  rintro e w' ⟨he, ⟨c', hc, hd⟩, f⟩
  exact ⟨he, h.code hb g1 g2 hd f (fun i q => by rcases q with q | q | q; exact .inl q; exact .inr (.inl q); exact .inr (.inr (.inl q))) (fun i q => .inl q) ⟨by omega, by omega, by omega⟩⟩
/-- Free, in the state's words. -/
def DS.free (s : DS) (id : Nat) : Nat × DS := if s.has id = true then (0, s.gone id) else (3, s)
theorem tw_free_d (h : TwoB w0 w db rb s r m m' ob oc) {id : Nat} (hu : isU32 id) : Calls Tryz.prog 53 #[.pointer (some ⟨db, 0, none⟩), .int .u32 id] w fun e w' => e = .returned (.int .i64 (s.free id).1) ∧ TwoB w0 w' db rb (s.free id).2 r m m' ob oc := by
  cases hh : s.has id with
  | false =>
    have e : s.free id = (3, s) := by unfold DS.free; rw [hh]; rfl
    rw [e]
    have h0 := h
    obtain ⟨c, pv, fv, mb, fh, nf, lv, nv, sv, h, hb, g1, g2⟩ := h
    refine (dk_free_no h.d hu hh).mono ?_
    rintro e w' ⟨he, rfl⟩
    exact ⟨he, h0⟩
  | true =>
    have e : s.free id = (0, s.gone id) := by unfold DS.free; rw [hh]; rfl
    rw [e]
    obtain ⟨c, pv, fv, mb, fh, nf, lv, nv, sv, h, hb, g1, g2⟩ := h
    refine (dk_free_yes h.d hu hh).mono ?_
    rintro e w' ⟨he, ⟨fv', hd, ho⟩, f⟩
    refine ⟨he, h.code hb g1 g2 hd f (fun i q => q) (fun i q => ?_) h.bd⟩
    rcases q with q | q | q | q
    · exact .inl (.inl q)
    · exact .inl (.inr (.inl q))
    · exact .inl (.inr (.inr (.inl q)))
    · exact (ho i q).imp (fun q => .inr (.inr (.inr q))) (fun q => q)
theorem tw_fail_d (h : TwoB w0 w db rb s r m m' ob oc) (hm : m < 100000) {id : Nat} (hu : isU32 id) (b : Bool) (t : Int) (ht : isI63 t.toNat) : Calls Tryz.prog 39 #[.pointer (some ⟨db, 0, none⟩), .int .u32 id, .bool b, .int .i64 t] w fun e w' => e = .returned (.tuple #[]) ∧ TwoB w0 w' db rb (s.fail id b t.toNat) r (m + 1) m' ob oc := by
  obtain ⟨c, pv, fv, mb, fh, nf, lv, nv, sv, h, hb, g1, g2⟩ := h
  obtain ⟨b1, b2, b3⟩ := h.bd
  by_cases hin : 1 ≤ id ∧ id ≤ s.room
  · have e : s.fail id b t.toNat = { s with fl := updK s.fl (id, b) t.toNat } := by unfold DS.fail; rw [if_pos hin]
    rw [e]
    by_cases h0 : t < 1
    · have e0 : t.toNat = 0 := by omega
      rw [e0]
      refine (dk_fail_none h.d hu b h0 hin).mono ?_
      rintro e w' ⟨he, ⟨c', hc, hd⟩, f⟩
      exact ⟨he, h.code hb g1 g2 hd f (fun i q => .inr (.inl q)) (fun i q => .inl q) ⟨by omega, Nat.le_succ_of_le b2, Nat.le_succ_of_le b3⟩⟩
    · obtain ⟨k, rfl⟩ := Int.eq_ofNat_of_zero_le (show 0 ≤ t by omega)
      refine (dk_fail_some h.d hu b (k := k) (by omega) ht hin (fun _ => by omega)).mono ?_
      rintro e w' ⟨he, ⟨c', hc, _, hd⟩, f⟩
      exact ⟨he, h.code hb g1 g2 hd f (fun i q => .inr (.inl q)) (fun i q => .inl q) ⟨by omega, Nat.le_succ_of_le b2, Nat.le_succ_of_le b3⟩⟩
  · have e : s.fail id b t.toNat = s := by unfold DS.fail; rw [if_neg hin]
    rw [e]
    refine (dk_fail_no h.d hu b t hin).mono ?_
    rintro e w' ⟨he, rfl⟩
    exact ⟨he, h.code hb g1 g2 h.d (Fr.refl NoF _) (fun i q => q.elim) (fun i q => .inl q) ⟨by omega, by omega, by omega⟩⟩
theorem tw_stop_d (h : TwoB w0 w db rb s r m m' ob oc) (t : Int) (ht : isI63 t.toNat) : Calls Tryz.prog 41 #[.pointer (some ⟨db, 0, none⟩), .int .i64 t] w fun e w' => e = .returned (.tuple #[]) ∧ TwoB w0 w' db rb { s with stops := true, left := t.toNat } r m m' ob oc := by
  obtain ⟨c, pv, fv, mb, fh, nf, lv, nv, sv, h, hb, g1, g2⟩ := h
  refine (dk_stop h.d t ht).mono ?_
  rintro e w' ⟨he, hd, f⟩
  exact ⟨he, h.code hb g1 g2 hd f (fun i q => .inl q) (fun i q => .inl q) h.bd⟩
theorem tw_full_d (h : TwoB w0 w db rb s r m m' ob oc) (R : DRel s r) (hf : r.room ≤ r.L.length) : Calls Tryz.prog 51 #[.pointer (some ⟨db, 0, none⟩)] w fun e w' => e = .returned (.tuple #[.int .u32 0, .int .i64 2]) ∧ TwoB w0 w' db rb s r m m' ob oc := by
  have h0 := h
  obtain ⟨c, pv, fv, mb, fh, nf, lv, nv, sv, h, hb, g1, g2⟩ := h
  rw [R.L, R.room] at hf
  have h1 := plR_len s.pg 0 s.np
  have h2 : (plL s.pg s.np).length ≤ s.np := h1
  cases nf with
  | zero =>
    refine (dk_alloc_full h.d (by omega)).mono ?_
    rintro e w' ⟨he, d, rfl⟩
    exact ⟨he, h0.fr0 ((Fr.refl NoF _).drewN d)⟩
  | succ nf =>
    obtain ⟨l1, l2, l3, l4⟩ := h.d.least
    have := plL_short (pg := s.pg) (i := fh 0 - 1) (n := s.np) (by omega) l3
    have := R.np
    omega
theorem tw_alloc_d (h : TwoB w0 w db rb s r m m' ob oc) (R : DRel s r) (hf : r.L.length < r.room) : Calls Tryz.prog 51 #[.pointer (some ⟨db, 0, none⟩)] w fun e w' => ∃ k, (∀ j, Gap r.L j → j = k) ∧ e = .returned (.tuple #[.int .u32 (k + 1 : Nat), .int .i64 0]) ∧ TwoB w0 w' db rb (s.put k) r m m' ob oc := by
  obtain ⟨c, pv, fv, mb, fh, nf, lv, nv, sv, h, hb, g1, g2⟩ := h
  rw [R.L, R.room] at hf
  rw [R.L]
  cases nf with
  | zero =>
    have hall : ∀ i, 0 ≤ i → i < 0 + s.np → (s.pg i).1 = true := by
      intro i _ hi
      cases hb : (s.pg i).1 with
      | true => rfl
      | false =>
        obtain ⟨k, q, _⟩ := (h.d.fm (i + 1)).2 ⟨by omega, by omega, by rw [Nat.add_sub_cancel]; exact hb⟩
        omega
    have hlen : (plL s.pg s.np).length = s.np := plR_full hall
    have e : s.put s.np = s.grow := by unfold DS.put DS.grow; rw [show max s.np (s.np + 1) = s.np + 1 from by omega]
    refine (dk_alloc_new h.d (by omega)).mono ?_
    rintro e' w' ⟨he, ⟨pv', hd, ho⟩, f⟩
    refine ⟨s.np, fun j hj => ?_, he, ?_⟩
    · obtain ⟨q1, q2, q3, q4⟩ := plL_gap hj
      rcases Nat.lt_or_ge j s.np with q | q
      · have := q3 q; rw [hall j (by omega) (by omega)] at this; cases this
      · omega
    · rw [e]
      refine h.code hb g1 g2 hd f (fun i q => q.elim .inl (fun q => .inr (.inr (.inl q)))) (fun i q => ?_) h.bd
      rcases q with q | q | q | q
      · exact .inl (.inl q)
      · exact .inl (.inr (.inl q))
      · exact (ho i q).imp (fun q => .inr (.inr (.inl q))) id
      · exact .inl (.inr (.inr (.inr q)))
  | succ nf =>
    obtain ⟨l1, l2, l3, l4⟩ := h.d.least
    refine (dk_alloc_pop h.d).mono ?_
    rintro e' w' ⟨he, ⟨fv', hd, ho⟩, f⟩
    refine ⟨fh 0 - 1, fun j hj => ?_, by rw [show fh 0 - 1 + 1 = fh 0 from by omega]; exact he, ?_⟩
    · obtain ⟨q1, q2, q3, q4⟩ := plL_gap hj
      have hj1 : j ≤ fh 0 - 1 := by
        rcases Nat.lt_or_ge (fh 0 - 1) j with q | q
        · have := q2 _ q; rw [l3] at this; cases this
        · exact q
      have := l4 (j + 1) (by omega) (by omega) (by rw [Nat.add_sub_cancel]; exact q3 (by omega))
      omega
    · have e : s.put (fh 0 - 1) = s.reuse (fh 0) := by unfold DS.put DS.reuse; rw [show max s.np (fh 0 - 1 + 1) = s.np from by omega]
      rw [e]
      refine h.code hb g1 g2 hd f (fun i q => q) (fun i q => .inl ?_) h.bd
      rcases q with q | q | q | q
      · exact .inl q
      · exact .inr (.inl q)
      · exact .inr (.inr (.inl q))
      · exact .inr (.inr (.inr (ho i q)))

/-! ### The document's calls -/
theorem tw_read_r (h : TwoB w0 w db rb s r m m' ob oc) (hm : m' < 100000) (id : Nat) : Calls Tryz.prog 64 #[.pointer (some ⟨rb, 0, none⟩), .int .u32 id] w fun e w' => e = .returned (.tuple #[.int .u64 (r.read id).1.1, .int .i64 (r.read id).1.2]) ∧ TwoB w0 w' db rb s (r.read id).2 m (m' + 1) ob oc := by
  obtain ⟨c, pv, fv, mb, fh, nf, lv, nv, sv, h, hb, g1, g2⟩ := h
  obtain ⟨b1, b2, b3, b4, b5⟩ := h.be
  obtain ⟨r1, r2, r3, r4, r5⟩ := r.read_b id
  refine (rf_read h.e id (by omega) (left_is b5 hm h.bl)).mono ?_
  rintro e w' ⟨he, ⟨nv', hd, ho⟩, f⟩
  refine ⟨he, h.ref hb g1 g2 hd f ho ⟨by omega, by rw [r2]; omega, by omega, by omega, ?_⟩ (left_keep r5 h.bl)⟩
  rcases r5 with q | q <;> omega
theorem tw_write_r (h : TwoB w0 w db rb s r m m' ob oc) (hm : m' < 100000) (id : Nat) {v : Nat} (hv : isU64 v) : Calls Tryz.prog 67 #[.pointer (some ⟨rb, 0, none⟩), .int .u32 id, .int .u64 v] w fun e w' => e = .returned (.int .i64 (r.write id v).1) ∧ TwoB w0 w' db rb s (r.write id v).2 m (m' + 1) ob oc := by
  obtain ⟨c, pv, fv, mb, fh, nf, lv, nv, sv, h, hb, g1, g2⟩ := h
  obtain ⟨b1, b2, b3, b4, b5⟩ := h.be
  obtain ⟨r1, r2, r3, r4, r5⟩ := r.write_b id v
  refine (rf_write h.e id v hv (by omega) (left_is b5 hm h.bl)).mono ?_
  rintro e w' ⟨he, ⟨lv', sv', hd, ho⟩, f⟩
  refine ⟨he, h.ref hb g1 g2 hd f ho ⟨by rw [r1]; omega, by omega, by omega, by omega, ?_⟩ (left_keep r5 h.bl)⟩
  rcases r5 with q | q <;> omega
theorem tw_free_r (h : TwoB w0 w db rb s r m m' ob oc) (id : Nat) : Calls Tryz.prog 63 #[.pointer (some ⟨rb, 0, none⟩), .int .u32 id] w fun e w' => e = .returned (.int .i64 (r.free id).1) ∧ TwoB w0 w' db rb s (r.free id).2 m m' ob oc := by
  obtain ⟨c, pv, fv, mb, fh, nf, lv, nv, sv, h, hb, g1, g2⟩ := h
  have hk : (r.free id).2.nr = r.nr ∧ (r.free id).2.ns = r.ns ∧ (r.free id).2.rd = r.rd ∧ (r.free id).2.wr = r.wr ∧ (r.free id).2.left = r.left := by
    unfold RS.free; split <;> exact ⟨rfl, rfl, rfl, rfl, rfl⟩
  obtain ⟨r1, r2, r3, r4, r5⟩ := hk
  refine (rf_free h.e id).mono ?_
  rintro e w' ⟨he, ⟨lv', hd, ho⟩, f⟩
  exact ⟨he, h.ref hb g1 g2 hd f ho (by rw [r1, r2, r3, r4, r5]; exact h.be) (by rw [r5]; exact h.bl)⟩
theorem tw_fail_r (h : TwoB w0 w db rb s r m m' ob oc) (hm : m' < 90000) (id : Nat) (b : Bool) (t : Int) (ht : isI63 t.toNat) : Calls Tryz.prog 40 #[.pointer (some ⟨rb, 0, none⟩), .int .u32 id, .bool b, .int .i64 t] w fun e w' => e = .returned (.tuple #[]) ∧ TwoB w0 w' db rb s (r.fail id b t.toNat) m (m' + 1) ob oc := by
  obtain ⟨c, pv, fv, mb, fh, nf, lv, nv, sv, h, hb, g1, g2⟩ := h
  obtain ⟨b1, b2, b3, b4, b5⟩ := h.be
  refine (rf_fail h.e id b t (by unfold isI63 at ht; unfold isU64; omega) (by omega) (by omega)).mono ?_
  rintro e w' ⟨he, ⟨nv', sv', hd, ho⟩, f⟩
  have l1 := setP_len r.nr id t.toNat
  have l2 := setP_len r.ns id t.toNat
  refine ⟨he, h.ref hb g1 g2 hd f ho ?_ ?_⟩
  · cases b with
    | false => exact ⟨by show (setP r.nr id t.toNat).length ≤ _; omega, by show r.ns.length ≤ _; omega, by show r.rd ≤ _; omega, by show r.wr ≤ _; omega, by show _ ≤ r.left; omega⟩
    | true => exact ⟨by show r.nr.length ≤ _; omega, by show (setP r.ns id t.toNat).length ≤ _; omega, by show r.rd ≤ _; omega, by show r.wr ≤ _; omega, by show _ ≤ r.left; omega⟩
  · cases b <;> exact h.bl
theorem tw_stop_r (h : TwoB w0 w db rb s r m m' ob oc) (t : Int) (ht : isI63 t.toNat) : Calls Tryz.prog 42 #[.pointer (some ⟨rb, 0, none⟩), .int .i64 t] w fun e w' => e = .returned (.tuple #[]) ∧ TwoB w0 w' db rb s { r with stops := true, left := (t.toNat : Int) } m m' ob oc := by
  obtain ⟨c, pv, fv, mb, fh, nf, lv, nv, sv, h, hb, g1, g2⟩ := h
  obtain ⟨b1, b2, b3, b4, b5⟩ := h.be
  refine (rf_stop h.e t).mono ?_
  rintro e w' ⟨he, hd, f⟩
  exact ⟨he, h.ref hb g1 g2 hd f (fun i q => .inl q) ⟨b1, b2, b3, b4, by show _ ≤ ((t.toNat : Nat) : Int); omega⟩ (by show isI63 ((t.toNat : Int)).toNat; rw [Int.toNat_natCast]; exact ht)⟩
theorem tw_full_r (h : TwoB w0 w db rb s r m m' ob oc) (hf : r.room ≤ r.L.length) : Calls Tryz.prog 61 #[.pointer (some ⟨rb, 0, none⟩)] w fun e w' => e = .returned (.tuple #[.int .u32 0, .int .i64 2]) ∧ TwoB w0 w' db rb s r m m' ob oc := by
  have h0 := h
  obtain ⟨c, pv, fv, mb, fh, nf, lv, nv, sv, h, hb, g1, g2⟩ := h
  exact (rf_alloc_full h.e hf).mono fun e w' ⟨he, f⟩ => ⟨he, h0.fr0 f⟩
theorem tw_alloc_r (h : TwoB w0 w db rb s r m m' ob oc) (hf : r.L.length < r.room) (hr : r.room ≤ 65535) : Calls Tryz.prog 61 #[.pointer (some ⟨rb, 0, none⟩)] w fun e w' => ∃ k, Gap r.L k ∧ e = .returned (.tuple #[.int .u32 (k + 1 : Nat), .int .i64 0]) ∧ TwoB w0 w' db rb s (r.ins k) m m' ob oc := by
  obtain ⟨c, pv, fv, mb, fh, nf, lv, nv, sv, h, hb, g1, g2⟩ := h
  refine (rf_alloc h.e hf hr).mono ?_
  rintro e w' ⟨k, hg, he, ⟨lv', hd, ho⟩, f⟩
  exact ⟨k, hg, he, h.ref hb g1 g2 hd f ho h.be h.bl⟩
end
end Go.Proofs.YtnideelidfpicaaGreatDoor

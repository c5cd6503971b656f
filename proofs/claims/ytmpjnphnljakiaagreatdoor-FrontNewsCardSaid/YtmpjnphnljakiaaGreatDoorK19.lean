/-
  Each call of a Disk beside the document's: both answers, and what both leave; what a copy leaves.
  A Disk in memory, in the document's words.
  pool: vacate, clean.
  A Pool in memory, with its disk and its Replacer; what is told the Replacer.
  pool: enter, remove, touch.
  pool: touch. (genPoE.py)
  pool: victim.
  pool: victim as a function; the least of a set.
-/
import Derived.Test.YtmpjnphnljakiaaGreatDoorK17
import Derived.Test.YtmpjnphnljakiaaGreatDoorK18
import Derived.LaidEqlPtr
import Derived.Test.YtmpjnphnljakiaaGreatDoorK09
import Derived.StillTailTactics
namespace Go.Proofs.YtmpjnphnljakiaaGreatDoor
open Go.RowKit Go.Maps
set_option linter.unusedVariables false

theorem gap_ex (L : List (Nat × Nat)) : ∃ k, Gap L k := by
  have H : ∀ n, n ≤ L.length → (∃ k, Gap L k) ∨ ∀ j (hj : j < L.length), j < n → L[j].1 = j + 1 := by
    intro n
    induction n with
    | zero => exact fun _ => .inr (fun j _ q => by omega)
    | succ n ih =>
      intro hn
      rcases ih (by omega) with q | q
      · exact .inl q
      · by_cases e : (L[n]'(by omega)).1 = n + 1
        · refine .inr (fun j hj hjn => ?_)
          by_cases ej : j = n
          · subst ej; exact e
          · exact q j hj (by omega)
        · exact .inl ⟨n, by omega, q, fun _ => e⟩
  rcases H L.length (Nat.le_refl _) with q | q
  · exact q
  · exact ⟨L.length, Nat.le_refl _, fun j hj _ => q j hj hj, fun hk => by omega⟩

section
variable {w0 w w' w1 : World} {db rb m m' c mb nf ob : Nat} {s : DS} {r : RS} {oc : Nat → Value}
/-- A state of the disk behind the first call, one of the document's behind the second one: both calls' answer is v. -/
def Pair (w0 w : World) (db rb : Nat) (r : RS) (m ob : Nat) (oc : Nat → Value) (f g : FuncId) (xs ys : Array Value) (v : Value) (s' : DS) (r' : RS) : Prop :=
  Hid (∀ W, Fr NoF w W → Calls Tryz.prog f xs W fun e w' => e = .returned v ∧ TwoB w0 w' db rb s' r (m + 1) m ob oc) ∧
  Hid (∀ W, TwoB w0 W db rb s' r (m + 1) m ob oc → Calls Tryz.prog g ys W fun e w' => e = .returned v ∧ TwoB w0 w' db rb s' r' (m + 1) (m + 1) ob oc) ∧ DRel s' r' ∧ s'.room = r.room
theorem TwoB.up (h : TwoB w0 w db rb s r m m' ob oc) {k k' : Nat} (h1 : m ≤ k) (h2 : m' ≤ k') : TwoB w0 w db rb s r k k' ob oc := by
  obtain ⟨c, pv, fv, mb, fh, nf, lv, nv, sv, h, hb, g1, g2⟩ := h
  obtain ⟨b1, b2, b3⟩ := h.bd
  obtain ⟨e1, e2, e3, e4, e5⟩ := h.be
  exact ⟨c, pv, fv, mb, fh, nf, lv, nv, sv, ⟨h.d, h.e, h.sep, ⟨by omega, by omega, by omega⟩, ⟨by omega, by omega, by omega, by omega, by omega⟩, h.bl, h.od, h.oe, h.f⟩, hb, g1, g2⟩
theorem DS.read_room (s : DS) (id : Nat) : (s.read id).2.room = s.room := by
  obtain ⟨a1, _⟩ := s.att_2 id false
  unfold DS.read; split <;> exact a1
theorem DS.write_room (s : DS) (id v : Nat) : (s.write id v).2.room = s.room := by
  obtain ⟨a1, _⟩ := s.att_2 id true
  unfold DS.write; split <;> exact a1
theorem DS.fail_room (s : DS) (id : Nat) (b : Bool) (x : Nat) : (s.fail id b x).room = s.room := by unfold DS.fail; split <;> rfl
/-! ### What is asked behind each -/
/-! ### A copy -/
theorem infoDisk : (Tryz.prog.info? 52).map (fun i => decide (i.size = 0)) = some false := by kernel_rfl
theorem neq_ptr {a b : Nat} {ca cb : Nat → Value} (ha : Blk w a 8 ca) (hb : Blk w b 8 cb) (hne : ¬ a = b) : (binOp .eql 23 (.pointer (some ⟨a, 0, none⟩)) (.pointer (some ⟨b, 0, none⟩))).run Tryz.prog w = .ok (.bool false) w := by
  obtain ⟨c1, t1, h1, _⟩ := ha
  obtain ⟨c2, t2, h2, _⟩ := hb
  have hi := infoDisk
  cases hj : Tryz.prog.info? 52 with
  | none => rw [hj] at hi; cases hi
  | some j =>
    rw [hj] at hi
    exact run_eql_ptr_other w Tryz.underlying23 hj (by simpa using hi) (fun e => hne (by injection e)) h1 h2
theorem cp_write (h : DN w w1 db s nf) {id : Nat} (hu : isU32 id) (v : Nat) (hwr : s.wr = 0) : Calls Tryz.prog 76 #[.pointer (some ⟨db, 0, none⟩), .int .u32 id, .int .u64 v] w1 fun e w' => ∃ x : Nat, e = .returned (.int .i64 x) ∧ ∃ s', DN w w' db s' nf :=
  (dn_write h hu v (by omega)).mono fun e w' ⟨he, hd⟩ => ⟨_, he, _, hd⟩
theorem cp_alloc (h : DN w w1 db s nf) : Calls Tryz.prog 47 #[.pointer (some ⟨db, 0, none⟩)] w1 fun e w' => ∃ x y : Nat, e = .returned (.tuple #[.int .u32 x, .int .i64 y]) ∧ Fr NoF w w' := by
  obtain ⟨c, pv, fv, mb, fh, h, hb, f⟩ := h
  cases nf with
  | zero =>
    by_cases hr : s.np < s.room
    · refine (dk_alloc_new h hr).mono ?_
      rintro e w' ⟨he, _, f2⟩
      exact ⟨_, _, he, f.trans f2 (fun i q => .inr (q.elim (fun q => hb i (.inl q)) (fun q => hb i (.inr (.inr (.inl q))))))⟩
    · refine (dk_alloc_full h hr).mono ?_
      rintro e w' ⟨he, d, rfl⟩
      exact ⟨0, 2, he, f.drewN d⟩
  | succ nf =>
    refine (dk_alloc_pop h).mono ?_
    rintro e w' ⟨he, _, f2⟩
    exact ⟨_, 0, he, f.trans f2 (fun i q => .inr (hb i q))⟩

/-! ### The beginning -/
def rs0 (n : Nat) : RS := ⟨n, [], [], [], 0, 0, false, 0⟩
theorem dr0 (n : Nat) : DRel (dk0 n) (rs0 n) := ⟨rfl, rfl, rfl, rfl, rfl, fun q => (by cases q), fun _ _ _ => rfl, fun _ _ _ => rfl, Nat.zero_le _⟩
end
end Go.Proofs.YtmpjnphnljakiaaGreatDoor
namespace Go.Proofs.YtmpjnphnljakiaaGreatDoor
open Go.RowKit
set_option linter.unusedVariables false

/-- Something lies in the blocks F; a call may change these, and lay new ones. -/
def Led (R : World → (Nat → Prop) → Prop) (F : Nat → Prop) (w w' : World) : Prop := ∃ F', R w' F' ∧ Fr F w w' ∧ ∀ i, F' i → F i ∨ w.heap.size ≤ i
/-- The Disk at block db is the document's r; m: more than what is counted. -/
def CD (db : Nat) (r : RS) (m : Nat) (w : World) (F : Nat → Prop) : Prop := ∃ s c pv fv mb fh nf, DC w db s c pv fv mb fh nf ∧ DRel s r ∧ (c ≤ m ∧ s.rd ≤ m ∧ s.wr ≤ m) ∧ ∀ i, F i ↔ FD db pv fv mb i
/-- The first gap. -/
theorem gapL_ex (L : List (Nat × Nat)) : ∃ k, Gap L k := by
  have key : ∀ d k, L.length - k = d → k ≤ L.length → (∀ j (hj : j < L.length), j < k → L[j].1 = j + 1) → ∃ k, Gap L k := by
    intro d
    induction d with
    | zero => exact fun k hd hk ha => ⟨k, hk, ha, fun q => by omega⟩
    | succ d ih =>
      intro k hd hk ha
      by_cases h : L[k].1 = k + 1
      · refine ih (k + 1) (by omega) (by omega) (fun j hj hjk => ?_)
        by_cases e : j = k
        · subst e; exact h
        · exact ha j hj (by omega)
      · exact ⟨k, hk, ha, fun _ => h⟩
  exact key _ 0 rfl (by omega) (fun j hj h => by omega)
noncomputable def gapOf (L : List (Nat × Nat)) : Nat := Classical.choose (gapL_ex L)
theorem gapOf_is (L : List (Nat × Nat)) : Gap L (gapOf L) := Classical.choose_spec (gapL_ex L)
/-- Is there such a page? -/
def RS.has (r : RS) (id : Nat) : Bool := (atP r.L id).isSome
section
variable {w w' : World} {db m : Nat} {r : RS} {F : Nat → Prop}
theorem CD.fr (h : CD db r m w F) {G : Nat → Prop} (f : Fr G w w') (hG : ∀ i, F i → ¬ G i) : CD db r m w' F := by
  obtain ⟨s, c, pv, fv, mb, fh, nf, h1, h2, h3, h4⟩ := h
  exact ⟨s, c, pv, fv, mb, fh, nf, h1.fr f (fun i q => hG i ((h4 i).2 q)), h2, h3, h4⟩
theorem CD.fr0 (h : CD db r m w F) (f : Fr NoF w w') : CD db r m w' F := h.fr f (fun _ _ q => q)
theorem CD.lt (h : CD db r m w F) : ∀ i, F i → i < w.heap.size := by
  obtain ⟨s, c, pv, fv, mb, fh, nf, h1, h2, h3, h4⟩ := h
  exact fun i q => h1.lt i ((h4 i).1 q)
theorem CD.at (h : CD db r m w F) : F db := by
  obtain ⟨s, c, pv, fv, mb, fh, nf, h1, h2, h3, h4⟩ := h
  exact (h4 db).2 (.inl rfl)
theorem CD.more (h : CD db r m w F) {k : Nat} (hk : m ≤ k) : CD db r k w F := by
  obtain ⟨s, c, pv, fv, mb, fh, nf, h1, h2, h3, h4⟩ := h
  exact ⟨s, c, pv, fv, mb, fh, nf, h1, h2, by omega, h4⟩
theorem CD.room (h : CD db r m w F) : 1 ≤ r.room ∧ r.room ≤ 65535 := by
  obtain ⟨s, c, pv, fv, mb, fh, nf, h1, h2, h3, h4⟩ := h
  rw [h2.room]; exact h1.r1
/-- Pages' ids are from 1 to the room. -/
theorem CD.ids (h : CD db r m w F) : ∀ x ∈ r.L, 1 ≤ x.1 ∧ x.1 ≤ r.room := by
  obtain ⟨s, c, pv, fv, mb, fh, nf, h1, h2, h3, h4⟩ := h
  intro x hx
  rw [h2.L] at hx
  obtain ⟨i, _, hi, _, e⟩ := plR_mem.1 hx
  have := h2.np
  have := h2.room
  rw [e]
  exact ⟨by show 1 ≤ i + 1; omega, by show i + 1 ≤ r.room; omega⟩
theorem cd_read (h : CD db r m w F) (hm : m < 100000) {id : Nat} (hu : isU32 id) : Calls Tryz.prog 52 #[.pointer (some ⟨db, 0, none⟩), .int .u32 id] w fun e w' => e = .returned (.tuple #[.int .u64 (r.read id).1.1, .int .i64 (r.read id).1.2]) ∧ Led (CD db (r.read id).2 (m + 1)) F w w' := by
  obtain ⟨s, c, pv, fv, mb, fh, nf, h1, h2, ⟨b1, b2, b3⟩, h4⟩ := h
  obtain ⟨r1, r2⟩ := s.read_b id
  obtain ⟨q1, q2⟩ := h2.read id
  rw [← q1]
  refine (dk_read h1 hu (by omega)).mono ?_
  rintro e w' ⟨he, ⟨c', hc, hd⟩, f⟩
  exact ⟨he, F, ⟨_, c', pv, fv, mb, fh, nf, hd, q2, ⟨by omega, by omega, by omega⟩, h4⟩, f.mono (fun i q => (h4 i).2 (q.elim .inl (fun q => .inr (.inl q)))), fun i q => .inl q⟩
theorem cd_write (h : CD db r m w F) (hm : m < 100000) {id : Nat} (hu : isU32 id) (v : Nat) : Calls Tryz.prog 76 #[.pointer (some ⟨db, 0, none⟩), .int .u32 id, .int .u64 v] w fun e w' => e = .returned (.int .i64 (r.write id v).1) ∧ Led (CD db (r.write id v).2 (m + 1)) F w w' := by
  obtain ⟨s, c, pv, fv, mb, fh, nf, h1, h2, ⟨b1, b2, b3⟩, h4⟩ := h
  obtain ⟨r1, r2⟩ := s.write_b id v
  obtain ⟨q1, q2⟩ := h2.write id v
  rw [← q1]
  refine (dk_write h1 hu v (by omega)).mono ?_
  rintro e w' ⟨he, ⟨c', hc, hd⟩, f⟩
  exact ⟨he, F, ⟨_, c', pv, fv, mb, fh, nf, hd, q2, ⟨by omega, by omega, by omega⟩, h4⟩, f.mono (fun i q => (h4 i).2 (by rcases q with q | q | q; exact .inl q; exact .inr (.inl q); exact .inr (.inr (.inl q)))), fun i q => .inl q⟩
theorem cd_free (h : CD db r m w F) {id : Nat} (hu : isU32 id) : Calls Tryz.prog 49 #[.pointer (some ⟨db, 0, none⟩), .int .u32 id] w fun e w' => e = .returned (.int .i64 (r.free id).1) ∧ Led (CD db (r.free id).2 m) F w w' := by
  obtain ⟨s, c, pv, fv, mb, fh, nf, h1, h2, h3, h4⟩ := h
  cases hh : s.has id with
  | false =>
    rw [h2.free_no hh]
    refine (dk_free_no h1 hu hh).mono ?_
    rintro e w' ⟨he, rfl⟩
    exact ⟨he, F, ⟨s, c, pv, fv, mb, fh, nf, h1, h2, h3, h4⟩, Fr.refl _ _, fun i q => .inl q⟩
  | true =>
    obtain ⟨q1, q2⟩ := h2.free_yes hh
    rw [q1]
    refine (dk_free_yes h1 hu hh).mono ?_
    rintro e w' ⟨he, ⟨fv', hd, ho⟩, f⟩
    refine ⟨he, FD db pv fv' mb, ⟨_, c, pv, fv', mb, _, _, hd, q2, h3, fun i => Iff.rfl⟩, f.mono (fun i q => (h4 i).2 q), fun i q => ?_⟩
    rcases q with q | q | q | q
    · exact .inl ((h4 i).2 (.inl q))
    · exact .inl ((h4 i).2 (.inr (.inl q)))
    · exact .inl ((h4 i).2 (.inr (.inr (.inl q))))
    · exact (ho i q).imp (fun q => (h4 i).2 (.inr (.inr (.inr q)))) (fun q => q)
theorem cd_fail (h : CD db r m w F) (hm : m < 100000) {id : Nat} (hu : isU32 id) (b : Bool) (t : Int) (ht : isI63 t.toNat) : Calls Tryz.prog 85 #[.pointer (some ⟨db, 0, none⟩), .int .u32 id, .bool b, .int .i64 t] w fun e w' => e = .returned (.tuple #[]) ∧ Led (CD db (r.fail id b t.toNat) (m + 1)) F w w' := by
  obtain ⟨s, c, pv, fv, mb, fh, nf, h1, h2, ⟨b1, b2, b3⟩, h4⟩ := h
  have q2 := h2.fail id b t.toNat
  obtain ⟨r1, r2⟩ := s.fail_b id b t.toNat
  by_cases hin : 1 ≤ id ∧ id ≤ s.room
  · have e : s.fail id b t.toNat = { s with fl := updK s.fl (id, b) t.toNat } := by unfold DS.fail; rw [if_pos hin]
    rw [e] at q2
    by_cases h0 : t < 1
    · have e0 : t.toNat = 0 := by omega
      rw [e0] at q2 ⊢
      refine (dk_fail_none h1 hu b h0 hin).mono ?_
      rintro e w' ⟨he, ⟨c', hc, hd⟩, f⟩
      exact ⟨he, F, ⟨_, c', pv, fv, mb, fh, nf, hd, q2, ⟨by omega, Nat.le_succ_of_le b2, Nat.le_succ_of_le b3⟩, h4⟩, f.mono (fun i q => (h4 i).2 (.inr (.inl q))), fun i q => .inl q⟩
    · obtain ⟨k, rfl⟩ := Int.eq_ofNat_of_zero_le (show 0 ≤ t by omega)
      refine (dk_fail_some h1 hu b (k := k) (by omega) ht hin (fun _ => by omega)).mono ?_
      rintro e w' ⟨he, ⟨c', hc, _, hd⟩, f⟩
      exact ⟨he, F, ⟨_, c', pv, fv, mb, fh, nf, hd, q2, ⟨by omega, Nat.le_succ_of_le b2, Nat.le_succ_of_le b3⟩, h4⟩, f.mono (fun i q => (h4 i).2 (.inr (.inl q))), fun i q => .inl q⟩
  · have e : s.fail id b t.toNat = s := by unfold DS.fail; rw [if_neg hin]
    rw [e] at q2
    refine (dk_fail_no h1 hu b t hin).mono ?_
    rintro e w' ⟨he, rfl⟩
    exact ⟨he, F, ⟨_, c, pv, fv, mb, fh, nf, h1, q2, ⟨by omega, by omega, by omega⟩, h4⟩, Fr.refl _ _, fun i q => .inl q⟩
theorem cd_full (h : CD db r m w F) (hf : r.room ≤ r.L.length) : Calls Tryz.prog 47 #[.pointer (some ⟨db, 0, none⟩)] w fun e w' => e = .returned (.tuple #[.int .u32 0, .int .i64 2]) ∧ Led (CD db r m) F w w' := by
  obtain ⟨s, c, pv, fv, mb, fh, nf, h1, h2, h3, h4⟩ := h
  have hf0 := hf
  rw [h2.L, h2.room] at hf
  have g1 := plR_len s.pg 0 s.np
  have g2 : (plL s.pg s.np).length ≤ s.np := g1
  cases nf with
  | zero =>
    refine (dk_alloc_full h1 (by omega)).mono ?_
    rintro e w' ⟨he, d, rfl⟩
    exact ⟨he, F, ⟨s, c, pv, fv, mb, fh, 0, h1.fr0 ((Fr.refl NoF _).drewN d), h2, h3, h4⟩, (Fr.refl _ _).drewN d, fun i q => .inl q⟩
  | succ nf =>
    obtain ⟨l1, l2, l3, l4⟩ := h1.least
    have := plL_short (pg := s.pg) (i := fh 0 - 1) (n := s.np) (by omega) l3
    have := h2.np
    omega
theorem cd_alloc (h : CD db r m w F) (hf : r.L.length < r.room) : Calls Tryz.prog 47 #[.pointer (some ⟨db, 0, none⟩)] w fun e w' => e = .returned (.tuple #[.int .u32 (gapOf r.L + 1 : Nat), .int .i64 0]) ∧ Led (CD db (r.ins (gapOf r.L)) m) F w w' := by
  obtain ⟨s, c, pv, fv, mb, fh, nf, h1, h2, h3, h4⟩ := h
  have hput := h2.put (gapOf_is r.L) hf
  rw [h2.L, h2.room] at hf
  have hg : Gap (plL s.pg s.np) (gapOf r.L) := by have := gapOf_is r.L; rw [h2.L] at this ⊢; exact this
  cases nf with
  | zero =>
    have hall : ∀ i, 0 ≤ i → i < 0 + s.np → (s.pg i).1 = true := by
      intro i _ hi
      cases hb : (s.pg i).1 with
      | true => rfl
      | false =>
        obtain ⟨k, q, _⟩ := (h1.fm (i + 1)).2 ⟨by omega, by omega, by rw [Nat.add_sub_cancel]; exact hb⟩
        omega
    have hlen : (plL s.pg s.np).length = s.np := plR_full hall
    have hk : gapOf r.L = s.np := by
      obtain ⟨q1, q2, q3, q4⟩ := plL_gap hg
      rcases Nat.lt_or_ge (gapOf r.L) s.np with q | q
      · have := q3 q; rw [hall _ (by omega) (by omega)] at this; cases this
      · omega
    rw [hk] at hput ⊢
    have e : s.put s.np = s.grow := by unfold DS.put DS.grow; rw [show max s.np (s.np + 1) = s.np + 1 from by omega]
    rw [e] at hput
    refine (dk_alloc_new h1 (by omega)).mono ?_
    rintro e' w' ⟨he, ⟨pv', hd, ho⟩, f⟩
    refine ⟨he, FD db pv' fv mb, ⟨_, c, pv', fv, mb, _, _, hd, hput, h3, fun i => Iff.rfl⟩, f.mono (fun i q => (h4 i).2 (q.elim .inl (fun q => .inr (.inr (.inl q))))), fun i q => ?_⟩
    rcases q with q | q | q | q
    · exact .inl ((h4 i).2 (.inl q))
    · exact .inl ((h4 i).2 (.inr (.inl q)))
    · exact (ho i q).imp (fun q => (h4 i).2 (.inr (.inr (.inl q)))) id
    · exact .inl ((h4 i).2 (.inr (.inr (.inr q))))
  | succ nf =>
    obtain ⟨l1, l2, l3, l4⟩ := h1.least
    have hk : gapOf r.L = fh 0 - 1 := by
      obtain ⟨q1, q2, q3, q4⟩ := plL_gap hg
      have hj1 : gapOf r.L ≤ fh 0 - 1 := by
        rcases Nat.lt_or_ge (fh 0 - 1) (gapOf r.L) with q | q
        · have := q2 _ q; rw [l3] at this; cases this
        · exact q
      have := l4 (gapOf r.L + 1) (by omega) (by omega) (by rw [Nat.add_sub_cancel]; exact q3 (by omega))
      omega
    rw [hk] at hput ⊢
    have e : s.put (fh 0 - 1) = s.reuse (fh 0) := by unfold DS.put DS.reuse; rw [show max s.np (fh 0 - 1 + 1) = s.np from by omega]
    rw [e] at hput
    refine (dk_alloc_pop h1).mono ?_
    rintro e' w' ⟨he, ⟨fv', hd, ho⟩, f⟩
    refine ⟨by rw [show fh 0 - 1 + 1 = fh 0 from by omega]; exact he, FD db pv fv' mb, ⟨_, c, pv, fv', mb, _, _, hd, hput, h3, fun i => Iff.rfl⟩, f.mono (fun i q => (h4 i).2 q), fun i q => ?_⟩
    rcases q with q | q | q | q
    · exact .inl ((h4 i).2 (.inl q))
    · exact .inl ((h4 i).2 (.inr (.inl q)))
    · exact .inl ((h4 i).2 (.inr (.inr (.inl q))))
    · exact .inl ((h4 i).2 (.inr (.inr (.inr (ho i q)))))
theorem cd_pages (h : CD db r m w F) : Calls Tryz.prog 17 #[.pointer (some ⟨db, 0, none⟩)] w fun e w' => ∃ v, e = .returned v ∧ OwK .u32 w.heap.size 44 w' v (r.L.map (·.1)) ∧ Fr NoF w w' := by
  obtain ⟨s, c, pv, fv, mb, fh, nf, h1, h2, h3, h4⟩ := h
  have := dk_pages h1
  rw [ids_plR, ← h2.L] at this
  exact this
theorem cd_new (room : Nat) (w : World) (h1 : 1 ≤ room) (h2 : room ≤ 65535) : Calls Tryz.prog 4 #[.int .i64 room] w fun e w' => ∃ db F, e = .returned (.tuple #[.pointer (some ⟨db, 0, none⟩), .int .i64 0]) ∧ CD db ⟨room, [], [], [], 0, 0, false, 0⟩ 0 w' F ∧ (∀ i, F i → w.heap.size ≤ i) ∧ Fr NoF w w' := by
  refine (dk_new_yes room w h1 h2).mono ?_
  rintro e w' ⟨db, pv, fv, mb, he, hd, ho, f⟩
  refine ⟨db, FD db pv fv mb, he, ⟨_, 0, pv, fv, mb, _, 0, hd, ⟨rfl, rfl, rfl, rfl, rfl, fun q => (by cases q), fun id _ _ => rfl, fun id _ _ => rfl, by show 0 ≤ room; omega⟩, ⟨by omega, by show 0 ≤ 0; omega, by show 0 ≤ 0; omega⟩, fun i => Iff.rfl⟩, ho, f⟩
end
end Go.Proofs.YtmpjnphnljakiaaGreatDoor
namespace Go.Proofs.YtmpjnphnljakiaaGreatDoor
open Go.RowKit Go.Maps
set_option linter.unusedVariables false
set_option linter.unusedSimpArgs false
set_option maxRecDepth 100000

section
variable {w w' : World} {p : PP} {f : Nat → FrS} {pl : Nat → Option Int} {E I : Nat → Bool} {sc m : Nat}
/-- A frame is written whole. -/
theorem MP.put4 (H : MP w p f pl E I sc m) {k : Nat} (hk : k < p.n) (x : FrS) (hx : x.id < 4294967296 ∧ x.val < 18446744073709551616 ∧ x.pins ≤ m) {w' : World} (hw : w' = (((w.setCell ⟨p.fb, k * 4, none⟩ (.int .u32 (x.id : Nat))).setCell ⟨p.fb, k * 4 + 1, none⟩ (.int .u64 (x.val : Nat))).setCell ⟨p.fb, k * 4 + 2, none⟩ (.int .i64 (x.pins : Nat))).setCell ⟨p.fb, k * 4 + 3, none⟩ (.bool x.dirty)) :
    MP w' p (upd f k x) pl E I sc m ∧ Fr (fun i => i = p.fb) w w' := by
  subst hw
  have g : Fr (fun i => i = p.fb) w ((((w.setCell ⟨p.fb, k * 4, none⟩ (.int .u32 (x.id : Nat))).setCell ⟨p.fb, k * 4 + 1, none⟩ (.int .u64 (x.val : Nat))).setCell ⟨p.fb, k * 4 + 2, none⟩ (.int .i64 (x.pins : Nat))).setCell ⟨p.fb, k * 4 + 3, none⟩ (.bool x.dirty)) :=
    ((((Fr.refl (fun i => i = p.fb) w).setCell (p := ⟨p.fb, _, none⟩) (.inl rfl) _).setCell (p := ⟨p.fb, _, none⟩) (.inl rfl) _).setCell (p := ⟨p.fb, _, none⟩) (.inl rfl) _).setCell (p := ⟨p.fb, _, none⟩) (.inl rfl) _
  refine ⟨H.frs (by rw [← frV_all]; exact (((H.fr.set _ _).set _ _).set _ _).set _ _) g (Nat.le_refl _) (fun i => ?_), g⟩
  by_cases e : i = k
  · subst e; rw [upd_same]; exact hx
  · rw [upd_other _ _ e]; exact H.bd.2 i
theorem MP.put1 (H : MP w p f pl E I sc m) {k j m' : Nat} (hk : k < p.n) (x : FrS) (u : Value) (he : upd (frV f) (k * 4 + j) u = frV (upd f k x)) (hm : m ≤ m') (hx : x.id < 4294967296 ∧ x.val < 18446744073709551616 ∧ x.pins ≤ m') :
    MP (w.setCell ⟨p.fb, k * 4 + j, none⟩ u) p (upd f k x) pl E I sc m' ∧ Fr (fun i => i = p.fb) w (w.setCell ⟨p.fb, k * 4 + j, none⟩ u) := by
  have g : Fr (fun i => i = p.fb) w (w.setCell ⟨p.fb, k * 4 + j, none⟩ u) := (Fr.refl (fun i => i = p.fb) w).setCell (p := ⟨p.fb, _, none⟩) (.inl rfl) _
  refine ⟨H.frs (by rw [← he]; exact H.fr.set _ _) g hm (fun i => ?_), g⟩
  by_cases e : i = k
  · subst e; rw [upd_same]; exact hx
  · rw [upd_other _ _ e]; have := H.bd.2 i; exact ⟨this.1, this.2.1, by omega⟩
set_option maxHeartbeats 1000000 in
theorem vacate_calls (H : MP w p f pl E I sc m) (hm : m < 900000) {k : Nat} (hk : k < p.n) (hE : E k = false) : Calls Tryz.prog 66 #[p.ptr, .int .i64 k] w fun e w' => e = .returned (.tuple #[]) ∧
    MP w' p (upd f k zF) (updO pl (f k).id (some (-1))) (updB E k true) (updB I k false) sc (m + 1) ∧ Fr p.own w w' := by
  have c2 : w.cell? ⟨p.pb, 2, none⟩ = some (.slice (some ⟨p.fb, 0, none⟩) p.n p.n) := H.ce 2 (by omega)
  have c3 : w.cell? ⟨p.pb, 3, none⟩ = some (.map (some p.mb)) := H.ce 3 (by omega)
  obtain ⟨cf, _, _, _⟩ := H.cf hk
  have hb := (H.bd.2 k).1
  have lb := H.hd.lt
  have lf := H.fr.lt
  have hn := H.hn
  obtain ⟨w1, r1, h1, g0⟩ := (H.fr0 ((Fr.refl NoF w).drew)).put hm hb (-1)
  have g1 : Fr (fun i => i = p.mb) w w1 := ((Fr.refl NoF w).drew.mono (fun _ q => q.elim)).trans g0 (fun i q => .inl q)
  have d2 : w1.cell? ⟨p.pb, 2, none⟩ = some (.slice (some ⟨p.fb, 0, none⟩) p.n p.n) := h1.ce 2 (by omega)
  have lb1 := h1.hd.lt
  have lf1 := h1.fr.lt
  obtain ⟨e0, e1, e2, e3⟩ := h1.cf hk
  have z0 := h1.fr.frozen (k * 4)
  have z1 := h1.fr.frozen (k * 4 + 1)
  have z2 := h1.fr.frozen (k * 4 + 2)
  have z3 := h1.fr.frozen (k * 4 + 3)
  have KP : Hid (∀ w2, w2 = (((w1.setCell ⟨p.fb, k * 4, none⟩ (.int .u32 (zF.id : Nat))).setCell ⟨p.fb, k * 4 + 1, none⟩ (.int .u64 (zF.val : Nat))).setCell ⟨p.fb, k * 4 + 2, none⟩ (.int .i64 (zF.pins : Nat))).setCell ⟨p.fb, k * 4 + 3, none⟩ (.bool zF.dirty) →
    MP w2 p (upd f k zF) (updO pl (f k).id (some (-1))) E I sc (m + 1) ∧ Fr p.own w w2) := fun w2 hw => by
      obtain ⟨q1, q2⟩ := h1.put4 hk zF ⟨by decide, by decide, by show 0 ≤ m + 1; omega⟩ hw
      exact ⟨q1, (g1.mono (fun i q => .inr (.inr (.inl q)))).trans (q2.mono (fun i q => .inr (.inl q))) (fun i q => .inl q)⟩
  have R1 := Lib.hid r1
  have HE := Lib.hid hE
  generalize (f k).id = id at *
  generalize (f k).val = xv at *
  generalize (f k).pins = xp at *
  generalize (f k).dirty = xd at *
  obtain ⟨n, pb, db, fb, mb, rv, ev, eh, eL, iv, ih, iL⟩ := p
  unfold PP.ptr
  dsimp only at *
  clear H hE h1 g0 g1 r1 hb
  go_enter Tryz.func66, Tryz.ntmps66
  have r1 := R1.out
  go_wp2
  go_region
  all_goals
    clear r1
    go_wp2_with fail
    obtain ⟨h2, g2⟩ := KP.out _ rfl
    refine (mp_dropI h2 hk).mono ?_
    rintro e w3 ⟨rfl, h3, g3⟩
    have H3 := Lib.hid h3
    have G3 := Lib.hid (g2.trans g3 (fun i q => .inl q))
    have lb3 := h3.hd.lt
    clear h2 g2 h3 g3
    go_wp2_with fail
    refine (mp_addE H3.out hk HE.out).mono ?_
    rintro e w4 ⟨rfl, h4, g4⟩
    have H4 := Lib.hid h4
    have G4 := Lib.hid (G3.out.trans g4 (fun i q => .inl q))
    clear h4 g4
    go_wp2
    go_returns
    exact ⟨rfl, H4.out, G4.out⟩
/-- What a frame held is on the disk. -/
theorem clean_no (H : MP w p f pl E I sc m) {k : Nat} (hk : k < p.n) (hd : (f k).dirty = false) : Calls Tryz.prog 57 #[p.ptr, .int .i64 k] w fun e w' => e = .returned (.int .i64 0) ∧ w = w' := by
  have c2 : w.cell? ⟨p.pb, 2, none⟩ = some (.slice (some ⟨p.fb, 0, none⟩) p.n p.n) := H.ce 2 (by omega)
  obtain ⟨c4, c5, c6, c7⟩ := H.cf hk
  have hn := H.hn
  have lb := H.hd.lt
  have lf := H.fr.lt
  rw [hd] at c7
  generalize (f k).id = xi at *
  generalize (f k).val = xv at *
  generalize (f k).pins = xp at *
  obtain ⟨n, pb, db, fb, mb, rv, ev, eh, eL, iv, ih, iL⟩ := p
  unfold PP.ptr
  dsimp only at *
  clear H hd
  go_enter Tryz.func57, Tryz.ntmps57
  go_wp2
  go_returns
  exact ⟨rfl, rfl⟩
set_option maxHeartbeats 1000000 in
theorem clean_calls (H : MP w p f pl E I sc m) {k : Nat} (hk : k < p.n) (hd : (f k).dirty = true) {er : Nat} {R : World → Prop} (hc : ∀ w0, Fr NoF w w0 → Calls Tryz.prog 76 #[.pointer (some ⟨p.db, 0, none⟩), .int .u32 (f k).id, .int .u64 (f k).val] w0 fun e w' => e = .returned (.int .i64 er) ∧ R w')
    {m2 : Nat} (hR : ∀ w1, R w1 → MP w1 p f pl E I sc m2) : Calls Tryz.prog 57 #[p.ptr, .int .i64 k] w fun e w' => e = .returned (.int .i64 er) ∧ ∃ w1, R w1 ∧ (¬ er = 0 → w' = w1) ∧ (er = 0 → w' = w1.setCell ⟨p.fb, k * 4 + 3, none⟩ (.bool false)) := by
  have c0 : w.cell? ⟨p.pb, 0, none⟩ = some (.pointer (some ⟨p.db, 0, none⟩)) := H.ce 0 (by omega)
  have c2 : w.cell? ⟨p.pb, 2, none⟩ = some (.slice (some ⟨p.fb, 0, none⟩) p.n p.n) := H.ce 2 (by omega)
  obtain ⟨c4, c5, c6, c7⟩ := H.cf hk
  have hn := H.hn
  have lb := H.hd.lt
  have lf := H.fr.lt
  rw [hd] at c7
  have HC := Lib.hid hc
  have KR : Hid (∀ w1, R w1 → w1.cell? ⟨p.fb, k * 4 + 3, none⟩ = some (.bool true) ∧ w1.frozen? ⟨p.fb, k * 4 + 3, none⟩ = false ∧ p.fb < w1.heap.size) := fun w1 h1 => by
    have := (hR w1 h1).cf hk
    rw [hd] at this
    exact ⟨this.2.2.2, (hR w1 h1).fr.frozen _, (hR w1 h1).fr.lt⟩
  generalize (f k).id = xi at *
  generalize (f k).val = xv at *
  generalize (f k).pins = xp at *
  obtain ⟨n, pb, db, fb, mb, rv, ev, eh, eL, iv, ih, iL⟩ := p
  unfold PP.ptr
  dsimp only at *
  clear H hd hc hR
  go_enter Tryz.func57, Tryz.ntmps57
  go_wp2_with fail
  go_still_tail 12, (by kernel_rfl)
  go_wp2_with fail
  refine (HC.out _ ((Fr.refl NoF w).drew)).mono ?_
  rintro e w1 ⟨rfl, h1⟩
  obtain ⟨x1, x2, x3⟩ := KR.out w1 h1
  have H1 := Lib.hid h1
  clear h1
  by_cases h0 : er = 0
  · subst h0
    go_wp2
    go_returns
    refine ⟨rfl, w1, H1.out, ?_⟩
    first | rfl | exact ⟨fun q => (q rfl).elim, fun _ => rfl⟩
  · have hne : (((er : Nat) : Int) == 0) = false := by simp <;> exact h0
    go_wp2
    go_returns
    exact ⟨rfl, w1, H1.out, fun _ => rfl, fun q => (h0 q).elim⟩
end
end Go.Proofs.YtmpjnphnljakiaaGreatDoor
namespace Go.Proofs.YtmpjnphnljakiaaGreatDoor
open Go.RowKit
set_option linter.unusedVariables false
set_option linter.unusedSectionVars false

structure PT (τ : Type) where
  f : Nat → FrS
  pl : Nat → Option Int
  E : Nat → Bool
  I : Nat → Bool
  sc : Nat
  D : RS
  A : τ
structure PJ {τ : Type} (RR : World → τ → (Nat → Prop) → Prop) (w : World) (p : PP) (T : PT τ) (m : Nat) (FD FR : Nat → Prop) : Prop where
  mp : MP w p T.f T.pl T.E T.I T.sc m
  cd : CD p.db T.D m w FD
  rr : RR w T.A FR
  s1 : ∀ i, p.own i → ¬ FD i ∧ ¬ FR i
  s2 : ∀ i, FD i → ¬ FR i
  t1 : ¬ FD 0 ∧ ¬ FR 0
/-- The whole, in the blocks F. -/
def PI {τ : Type} (RR : World → τ → (Nat → Prop) → Prop) (p : PP) (T : PT τ) (m : Nat) (w : World) (F : Nat → Prop) : Prop := ∃ FD FR, PJ RR w p T m FD FR ∧ ∀ i, F i ↔ p.own i ∨ FD i ∨ FR i
theorem Led.refl {R : World → (Nat → Prop) → Prop} {F : Nat → Prop} {w : World} (h : R w F) : Led R F w w := ⟨F, h, Fr.refl _ _, fun i q => .inl q⟩
theorem Led.trans {R R' : World → (Nat → Prop) → Prop} {F F1 : Nat → Prop} {w w1 w2 : World} (f : Fr F w w1) (hF : ∀ i, F1 i → F i ∨ w.heap.size ≤ i) (h : Led R' F1 w1 w2) : Led R' F w w2 := by
  obtain ⟨F2, h2, g, q⟩ := h
  refine ⟨F2, h2, f.trans g hF, fun i k => ?_⟩
  rcases q i k with q | q
  · exact hF i q
  · have := f.size; exact .inr (by omega)
theorem Led.mono {R R' : World → (Nat → Prop) → Prop} {F : Nat → Prop} {w w' : World} (h : Led R F w w') (k : ∀ F', R w' F' → R' w' F') : Led R' F w w' := by
  obtain ⟨F', h, f, q⟩ := h
  exact ⟨F', k F' h, f, q⟩
section
variable {τ : Type} {P : Adv τ} {RR : World → τ → (Nat → Prop) → Prop} {ok : Nat → τ → (Nat → Nat) → (Nat → Bool) → Prop} {p : PP} (S : RepSys P RR p.pb p.rv p.n ok) {w w' : World} {T : PT τ} {m : Nat} {F : Nat → Prop}
theorem PI.me (H : PI RR p T m w F) : MP w p T.f T.pl T.E T.I T.sc m := by obtain ⟨FD, FR, h, _⟩ := H; exact h.mp
theorem PI.own (H : PI RR p T m w F) : ∀ i, p.own i → F i := by obtain ⟨FD, FR, h, hF⟩ := H; exact fun i q => (hF i).2 (.inl q)
theorem PI.ptab (H : PI RR p T m w F) : ¬ F 0 := by
  obtain ⟨FD, FR, h, hF⟩ := H
  intro q
  rcases (hF _).1 q with q | q | q
  · exact h.mp.nt q
  · exact h.t1.1 q
  · exact h.t1.2 q
/-- Its own memory is written. -/
theorem PI.set (H : PI RR p T m w F) {f : Nat → FrS} {pl : Nat → Option Int} {E I : Nat → Bool} {sc k : Nat} (h : MP w' p f pl E I sc k) (g : Fr p.own w w') (hk : m ≤ k) (S : RepSys P RR p.pb p.rv p.n ok) : Led (PI RR p { T with f := f, pl := pl, E := E, I := I, sc := sc } k) F w w' := by
  obtain ⟨FD, FR, H, hF⟩ := H
  exact ⟨F, ⟨FD, FR, ⟨h, (H.cd.fr g (fun i q k => (H.s1 i k).1 q)).more hk, S.fr H.rr g (fun i q k => (H.s1 i k).2 q), H.s1, H.s2, H.t1⟩, hF⟩, g.mono (fun i q => (hF i).2 (.inl q)), fun i q => .inl q⟩
theorem PI.more (H : PI RR p T m w F) {k : Nat} (hk : m ≤ k) : PI RR p T k w F := by
  obtain ⟨FD, FR, H, hF⟩ := H
  exact ⟨FD, FR, ⟨H.mp.more hk, H.cd.more hk, H.rr, H.s1, H.s2, H.t1⟩, hF⟩
include S
theorem PI.fro (H : PI RR p T m w F) {G : Nat → Prop} (g : Fr G w w') (hG : ∀ i, F i → ¬ G i) (ht : ¬ G 0) : PI RR p T m w' F := by
  obtain ⟨FD, FR, H, hF⟩ := H
  exact ⟨FD, FR, ⟨H.mp.fro g (fun i q => hG i ((hF i).2 (.inl q))) ht, H.cd.fr g (fun i q => hG i ((hF i).2 (.inr (.inl q)))), S.fr H.rr g (fun i q => hG i ((hF i).2 (.inr (.inr q)))), H.s1, H.s2, H.t1⟩, hF⟩
theorem PI.fr0 (H : PI RR p T m w F) (g : Fr NoF w w') : PI RR p T m w' F := H.fro S g (fun _ _ q => q) id
theorem PI.lt (H : PI RR p T m w F) : ∀ i, F i → i < w.heap.size := by
  obtain ⟨FD, FR, H, hF⟩ := H
  intro i q
  rcases (hF i).1 q with q | q | q
  · exact H.mp.lt i q
  · exact H.cd.lt i q
  · exact S.lt H.rr i q
/-- The disk is called. -/
theorem PI.disk (H : PI RR p T m w F) {g : FuncId} {args : Array Value} {Q : Ending → World → Prop} {D' : RS} {k : Nat} (hk : m ≤ k) (hc : ∀ FD, CD p.db T.D m w FD → Calls Tryz.prog g args w fun e w' => Q e w' ∧ Led (CD p.db D' k) FD w w') :
    Calls Tryz.prog g args w fun e w' => Q e w' ∧ Led (PI RR p { T with D := D' } k) F w w' := by
  obtain ⟨FD, FR, H, hF⟩ := H
  refine (hc FD H.cd).mono ?_
  rintro e w' ⟨he, FD', hd, f, hq⟩
  refine ⟨he, fun i => p.own i ∨ FD' i ∨ FR i, ⟨FD', FR, ⟨(H.mp.fro f (fun i q => (H.s1 i q).1) H.t1.1).more hk, hd, S.fr H.rr f (fun i q k => H.s2 i k q), fun i q => ⟨fun k => ?_, (H.s1 i q).2⟩, fun i q k => ?_, fun q => ?_, H.t1.2⟩, fun i => Iff.rfl⟩, f.mono (fun i q => (hF i).2 (.inr (.inl q))), ?_⟩
  · rcases hq i k with k | k
    · exact (H.s1 i q).1 k
    · have := H.mp.lt i q; omega
  · rcases hq i q with q | q
    · exact H.s2 i q k
    · have := S.lt H.rr i k; omega
  · rcases hq _ q with q | q
    · exact H.t1.1 q
    · have := H.mp.tab.lt; omega
  · rintro i (q | q | q)
    · exact .inl ((hF i).2 (.inl q))
    · exact (hq i q).imp (fun q => (hF i).2 (.inr (.inl q))) id
    · exact .inl ((hF i).2 (.inr (.inr q)))
/-- The Replacer is told something. -/
theorem PI.told (H : PI RR p T m w F) {g : FuncId} {args : Array Value} {Q : Ending → World → Prop} {s' : τ} (hc : ∀ FR, RR w T.A FR → (∀ i, FR i → F i) → ¬ FR p.pb → Calls Tryz.prog g args w fun e w' => Q e w' ∧ Tld RR s' FR w w') :
    Calls Tryz.prog g args w fun e w' => Q e w' ∧ Led (PI RR p { T with A := s' } m) F w w' := by
  obtain ⟨FD, FR, H, hF⟩ := H
  refine (hc FR H.rr (fun i q => (hF i).2 (.inr (.inr q))) (H.s1 _ (.inl rfl)).2).mono ?_
  rintro e w' ⟨he, FR', hd, f, hq⟩
  refine ⟨he, fun i => p.own i ∨ FD i ∨ FR' i, ⟨FD, FR', ⟨H.mp.fro f (fun i q => (H.s1 i q).2) H.t1.2, H.cd.fr f (fun i q => H.s2 i q), hd, fun i q => ⟨(H.s1 i q).1, fun k => ?_⟩, fun i q k => ?_, H.t1.1, fun q => ?_⟩, fun i => Iff.rfl⟩, f.mono (fun i q => (hF i).2 (.inr (.inr q))), ?_⟩
  · rcases hq i k with k | k
    · exact (H.s1 i q).2 k
    · have := H.mp.lt i q; omega
  · rcases hq i k with k | k
    · exact H.s2 i q k
    · have := H.cd.lt i q; omega
  · rcases hq _ q with q | q
    · exact H.t1.2 q
    · have := H.mp.tab.lt; omega
  · rintro i (q | q | q)
    · exact .inl ((hF i).2 (.inl q))
    · exact .inl ((hF i).2 (.inr (.inl q)))
    · exact (hq i q).imp (fun q => (hF i).2 (.inr (.inr q))) id
theorem PI.tell1 (H : PI RR p T m w F) {g : FuncId} {c1 : Value} {s' : τ} (ho : Own g) (hc : ∀ FR, RR w T.A FR → (∀ i, FR i → F i) → Calls Tryz.prog g #[p.rv, c1] w fun e w' => e = .returned (.tuple #[]) ∧ Tld RR s' FR w w') :
    Calls Tryz.prog 55 #[p.ptr, .func (.func g) #[] #[c1]] w fun e w' => e = .returned (.tuple #[]) ∧ Led (PI RR p { T with A := s' } m) F w w' :=
  H.told S (fun FR hr hF _ => tell_one ho (H.me.ce 1 (by omega)) H.me.hd.lt (hc FR hr hF))
theorem PI.tell2 (H : PI RR p T m w F) {g : FuncId} {c1 c2 : Value} {s' : τ} (ho : Own g) (hc : ∀ FR, RR w T.A FR → (∀ i, FR i → F i) → Calls Tryz.prog g #[p.rv, c1, c2] w fun e w' => e = .returned (.tuple #[]) ∧ Tld RR s' FR w w') :
    Calls Tryz.prog 55 #[p.ptr, .func (.func g) #[] #[c1, c2]] w fun e w' => e = .returned (.tuple #[]) ∧ Led (PI RR p { T with A := s' } m) F w w' :=
  H.told S (fun FR hr hF _ => tell_two ho (H.me.ce 1 (by omega)) H.me.hd.lt (hc FR hr hF))
end
theorem own_of {f : FuncId} {fn : Func} {c : Code} (hf : Tryz.prog.funcs[f]? = some fn) (hname : (fn.name == "runtime.NumGoroutine") = false) (hb : fn.body = some c) : Own f := fun args w => by
  have h1 : fn.name ≠ "runtime.NumGoroutine" := by simpa using hname
  simp [callFunc, hf, h1, hb]
theorem own_p1 : Own 61 := own_of Tryz.func61 (by kernel_rfl) rfl
theorem own_p2 : Own 64 := own_of Tryz.func64 (by kernel_rfl) rfl
theorem own_p3 : Own 65 := own_of Tryz.func65 (by kernel_rfl) rfl
theorem own_v1 : Own 83 := own_of Tryz.func83 (by kernel_rfl) rfl
theorem own_e1 : Own 70 := own_of Tryz.func70 (by kernel_rfl) rfl
theorem own_t1 : Own 71 := own_of Tryz.func71 (by kernel_rfl) rfl
theorem own_t2 : Own 72 := own_of Tryz.func72 (by kernel_rfl) rfl
theorem own_u1 : Own 56 := own_of Tryz.func56 (by kernel_rfl) rfl
theorem own_r1 : Own 74 := own_of Tryz.func74 (by kernel_rfl) rfl
end Go.Proofs.YtmpjnphnljakiaaGreatDoor
namespace Go.Proofs.YtmpjnphnljakiaaGreatDoor
open Go.RowKit Go.Maps
set_option linter.unusedVariables false
set_option linter.unusedSimpArgs false
set_option linter.unusedSectionVars false
set_option maxRecDepth 100000

/-- Two variables that closures share lie in blocks of their own. -/
theorem blk1 (w : World) (u : Value) (t : TypeId) : Blk (w.alloc (.cells #[u] t)) w.heap.size 1 (fun _ => u) := Blk.new w #[u] t 1 (fun _ => u) _ rfl rfl (fun i hi => by
  match i, hi with
  | 0, _ => rfl)
theorem alloc_size (w : World) (o : Obj) : (w.alloc o).heap.size = w.heap.size + 1 := Array.size_push (xs := w.heap) o
theorem box2 (w : World) (u1 u2 : Value) (t1 t2 : TypeId) : ((w.alloc (.cells #[u1] t1)).alloc (.cells #[u2] t2)).cell? ⟨w.heap.size, 0, none⟩ = some u1 ∧ ((w.alloc (.cells #[u1] t1)).alloc (.cells #[u2] t2)).cell? ⟨w.heap.size + 1, 0, none⟩ = some u2 ∧ ((w.alloc (.cells #[u1] t1)).alloc (.cells #[u2] t2)).heap.size = w.heap.size + 2 ∧ Fr NoF w ((w.alloc (.cells #[u1] t1)).alloc (.cells #[u2] t2)) := by
  have h1 := (blk1 w u1 t1).alloc (.cells #[u2] t2)
  have h2 := blk1 (w.alloc (.cells #[u1] t1)) u2 t2
  have hs := alloc_size w (.cells #[u1] t1)
  rw [hs] at h2
  exact ⟨h1.cell (by omega), h2.cell (by omega), by rw [alloc_size, alloc_size], ((Fr.refl NoF w).alloc _).alloc _⟩
theorem box1 (w : World) (u1 : Value) (t1 : TypeId) : (w.alloc (.cells #[u1] t1)).cell? ⟨w.heap.size, 0, none⟩ = some u1 ∧ (w.alloc (.cells #[u1] t1)).heap.size = w.heap.size + 1 ∧ Fr NoF w (w.alloc (.cells #[u1] t1)) :=
  ⟨(blk1 w u1 t1).cell (by omega), alloc_size _ _, (Fr.refl NoF w).alloc _⟩
section
variable {τ : Type} {P : Adv τ} {RR : World → τ → (Nat → Prop) → Prop} {ok : Nat → τ → (Nat → Nat) → (Nat → Bool) → Prop} {p : PP} (S : RepSys P RR p.pb p.rv p.n ok) {w w' : World} {T : PT τ} {m : Nat} {F : Nat → Prop}
include S
set_option maxHeartbeats 1000000 in
theorem remove_calls (H : PI RR p T m w F) (hm : m < 80000) {k : Nat} (hk : k < p.n) (hE : T.E k = false) {pg : Nat → Nat} {ev : Nat → Bool} (ho : ok m T.A pg ev) (h0 : ¬ pg k = 0) : Calls Tryz.prog 53 #[p.ptr, .int .i64 k] w fun e w' => e = .returned (.tuple #[]) ∧
    Led (PI RR p { T with f := upd T.f k zF, pl := updO T.pl (T.f k).id (some (-1)), E := updB T.E k true, I := updB T.I k false, A := P.remove T.A k } (m + 1)) F w w' := by
  obtain ⟨b1, b2, b3⟩ := box1 w (.int .i64 k) 3
  have H1 := H.fr0 S b3
  have lb := H1.me.hd.lt
  have hlt := H.lt S
  have KV := Lib.hid (vacate_calls H1.me (by omega) hk hE)
  have KT : Hid (∀ w3 F3, PI RR p { T with f := upd T.f k zF, pl := updO T.pl (T.f k).id (some (-1)), E := updB T.E k true, I := updB T.I k false } (m + 1) w3 F3 → w3.cell? ⟨w.heap.size, 0, none⟩ = some (.int .i64 k) → w.heap.size < w3.heap.size → ¬ F3 w.heap.size →
    Calls Tryz.prog 55 #[p.ptr, .func (.func 74) #[] #[.pointer (some ⟨w.heap.size, 0, none⟩)]] w3 fun e w' => e = .returned (.tuple #[]) ∧ Led (PI RR p { T with f := upd T.f k zF, pl := updO T.pl (T.f k).id (some (-1)), E := updB T.E k true, I := updB T.I k false, A := P.remove T.A k } (m + 1)) F3 w3 w') :=
    fun w3 F3 h3 q1 q2 q3 => h3.tell1 S own_r1 (fun FR hr hF => S.rem hr (S.more ho (Nat.le_succ m)) (by omega) hk h0 q1 q2 (fun q => q3 (hF _ q)) (.inr rfl))
  have KS : Hid (∀ w2, MP w2 p (upd T.f k zF) (updO T.pl (T.f k).id (some (-1))) (updB T.E k true) (updB T.I k false) T.sc (m + 1) → Fr p.own (w.alloc (.cells #[.int .i64 k] 3)) w2 → Led (PI RR p { T with f := upd T.f k zF, pl := updO T.pl (T.f k).id (some (-1)), E := updB T.E k true, I := updB T.I k false } (m + 1)) F (w.alloc (.cells #[.int .i64 k] 3)) w2) :=
    fun w2 h g => H1.set h g (by omega) S
  have hno : ¬ p.own w.heap.size := fun q => by have := hlt _ (H.own _ q); omega
  have hnF : ¬ F w.heap.size := fun q => by have := hlt _ q; omega
  generalize p.n = n at *
  unfold PP.ptr at *
  clear H H1 ho
  have B1 := Lib.hid b1
  have HB3 := Lib.hid b3
  clear b3 hlt
  go_enter Tryz.func53, Tryz.ntmps53
  go_wp2_with fail
  refine KV.out.mono ?_
  rintro e w2 ⟨rfl, h2, g2⟩
  obtain ⟨F2, h3, g3, q3⟩ := KS.out w2 h2 g2
  have hs2 := g3.size
  have x1 : w2.cell? ⟨w.heap.size, 0, none⟩ = some (.int .i64 k) := by rw [g3.cell (p := ⟨w.heap.size, 0, none⟩) (by show w.heap.size < _; omega) hnF]; exact B1.out
  have KC := Lib.hid (KT.out w2 F2 h3 x1 (by omega) (fun q => (q3 _ q).elim hnF (fun q => by omega)))
  have G3 := Lib.hid g3
  have Q3 := Lib.hid q3
  clear h2 g2 h3 g3 q3 x1
  go_wp2_with fail
  refine KC.out.mono ?_
  rintro e w3 ⟨rfl, h4⟩
  have H4 := Lib.hid h4
  clear h4
  go_wp2
  go_returns
  exact ⟨rfl, Led.trans (R := fun _ _ => True) (HB3.out.mono (fun _ q => q.elim)) (fun i q => .inl q) (Led.trans (R := fun _ _ => True) G3.out Q3.out H4.out)⟩
set_option maxHeartbeats 2000000 in
theorem enter_calls (H : PI RR p T m w F) (hm : m < 80000) {k id : Nat} (hk : k < p.n) (h1 : 1 ≤ id) (hu : id < 4294967296) {pg : Nat → Nat} {ev : Nat → Bool} (ho : ok m T.A pg ev) (h0 : pg k = 0) (hno : ∀ i, i < p.n → ¬ pg i = id) (hm1 : 1 ≤ m) : Calls Tryz.prog 50 #[p.ptr, .int .i64 k, .int .u32 id] w fun e w' => e = .returned (.tuple #[]) ∧
    Led (PI RR p { T with f := upd T.f k ⟨id, 0, 1, false⟩, pl := updO T.pl id (some k), E := updB T.E k false, A := P.access T.A k id } (m + 1)) F w w' := by
  obtain ⟨b1, b2, b3, b4⟩ := box2 w (.int .i64 k) (.int .u32 id) 3 44
  have H1 := H.fr0 S b4
  have lb := H1.me.hd.lt
  have lf := H1.me.fr.lt
  have hlt := H.lt S
  have c2 : ((w.alloc (.cells #[.int .i64 k] 3)).alloc (.cells #[.int .u32 id] 44)).cell? ⟨p.pb, 2, none⟩ = some (.slice (some ⟨p.fb, 0, none⟩) p.n p.n) := H1.me.ce 2 (by omega)
  have hn := H.me.hn
  obtain ⟨e0, e1, e2, e3⟩ := H1.me.cf hk
  have z0 := H1.me.fr.frozen (k * 4)
  have z1 := H1.me.fr.frozen (k * 4 + 1)
  have z2 := H1.me.fr.frozen (k * 4 + 2)
  have z3 := H1.me.fr.frozen (k * 4 + 3)
  have hnF1 : ¬ F w.heap.size := fun q => by have := hlt _ q; omega
  have hnF2 : ¬ F (w.heap.size + 1) := fun q => by have := hlt _ q; omega
  have HF := Lib.hid H1
  have HU := Lib.hid hu
  generalize (T.f k).id = xi at *
  generalize (T.f k).val = xv at *
  generalize (T.f k).pins = xp at *
  generalize (T.f k).dirty = xd at *
  have B4 := Lib.hid b4
  have KA : Hid (∀ wA, wA = (((((((w.alloc (.cells #[.int .i64 k] 3)).alloc (.cells #[.int .u32 id] 44)).setCell ⟨p.fb, k * 4, none⟩ (.int .u32 id)).setCell ⟨p.fb, k * 4 + 1, none⟩ (.int .u64 0)).setCell ⟨p.fb, k * 4 + 2, none⟩ (.int .i64 1)).setCell ⟨p.fb, k * 4 + 3, none⟩ (.bool false)).drew) →
      MP wA p (upd T.f k ⟨id, 0, 1, false⟩) T.pl T.E T.I T.sc m ∧ Fr p.own ((w.alloc (.cells #[.int .i64 k] 3)).alloc (.cells #[.int .u32 id] 44)) wA) := fun wA hA => by
    obtain ⟨q1, q2⟩ := H1.me.put4 hk ⟨id, 0, 1, false⟩ ⟨hu, by show 0 < _; omega, hm1⟩ rfl
    subst hA
    exact ⟨q1.fr0 ((Fr.refl NoF _).drew), (q2.drew).mono (fun i q => .inr (.inl q))⟩
  have KT : Hid (∀ w3 F3, PI RR p { T with f := upd T.f k ⟨id, 0, 1, false⟩, pl := updO T.pl id (some k), E := updB T.E k false } (m + 1) w3 F3 → w3.cell? ⟨w.heap.size, 0, none⟩ = some (.int .i64 k) → w3.cell? ⟨w.heap.size + 1, 0, none⟩ = some (.int .u32 id) → w.heap.size + 1 < w3.heap.size → ¬ F3 w.heap.size → ¬ F3 (w.heap.size + 1) →
    Calls Tryz.prog 55 #[p.ptr, .func (.func 70) #[] #[.pointer (some ⟨w.heap.size, 0, none⟩), .pointer (some ⟨w.heap.size + 1, 0, none⟩)]] w3 fun e w' => e = .returned (.tuple #[]) ∧ Led (PI RR p { T with f := upd T.f k ⟨id, 0, 1, false⟩, pl := updO T.pl id (some k), E := updB T.E k false, A := P.access T.A k id } (m + 1)) F3 w3 w') :=
    fun w3 F3 h3 q1 q2 q3 q4 q5 => h3.tell2 S own_e1 (fun FR hr hF => S.acc hr (S.more ho (Nat.le_succ m)) (by omega) h1 hu hk (.inr ⟨h0, hno⟩) q1 q2 (by omega) q3 (fun q => q4 (hF _ q)) (fun q => q5 (hF _ q)) (.inr (.inl rfl)))
  have KS : Hid (∀ w3, MP w3 p (upd T.f k ⟨id, 0, 1, false⟩) (updO T.pl id (some k)) (updB T.E k false) T.I T.sc (m + 1) → Fr p.own ((w.alloc (.cells #[.int .i64 k] 3)).alloc (.cells #[.int .u32 id] 44)) w3 → Led (PI RR p { T with f := upd T.f k ⟨id, 0, 1, false⟩, pl := updO T.pl id (some k), E := updB T.E k false } (m + 1)) F ((w.alloc (.cells #[.int .i64 k] 3)).alloc (.cells #[.int .u32 id] 44)) w3) :=
    fun w3 h g => H1.set h g (by omega) S
  have hno1 : ¬ p.own w.heap.size := fun q => hnF1 (H.own _ q)
  have hno2 : ¬ p.own (w.heap.size + 1) := fun q => hnF2 (H.own _ q)
  generalize hw2 : ((w.alloc (.cells #[.int .i64 k] 3)).alloc (.cells #[.int .u32 id] 44)) = w2 at *
  have hbn : w.heap.size + 1 < w2.heap.size := by omega
  unfold PP.ptr at *
  clear H H1 ho hlt b4 hu S HF hno h0 b3
  go_enter Tryz.func50, Tryz.ntmps50
  go_wp2_with fail
  try rw [hw2]
  clear hw2
  go_region
  all_goals
    go_wp2_with fail
    obtain ⟨mA, gA⟩ := KA.out _ rfl
    generalize ((((w2.setCell ⟨p.fb, k * 4, none⟩ (.int .u32 id)).setCell ⟨p.fb, k * 4 + 1, none⟩ (.int .u64 0)).setCell ⟨p.fb, k * 4 + 2, none⟩ (.int .i64 1)).setCell ⟨p.fb, k * 4 + 3, none⟩ (.bool false)).drew = wA at mA gA ⊢
    clear KA
    obtain ⟨wB, rB, hB, gB⟩ := (mA.fr0 ((Fr.refl NoF wA).drew)).put (by omega) HU.out (k : Int)
    have x3 : wA.cell? ⟨p.pb, 3, none⟩ = some (.map (some p.mb)) := mA.ce 3 (by omega)
    have xl := mA.hd.lt
    have y1 : wA.cell? ⟨w.heap.size, 0, none⟩ = some (.int .i64 k) := by rw [gA.cell (p := ⟨w.heap.size, 0, none⟩) (by show w.heap.size < _; omega) hno1]; exact b1
    have y2 : wA.cell? ⟨w.heap.size + 1, 0, none⟩ = some (.int .u32 id) := by rw [gA.cell (p := ⟨w.heap.size + 1, 0, none⟩) (by show w.heap.size + 1 < _; omega) hno2]; exact b2
    have gAB : Fr p.own w2 wB := gA.trans (((Fr.refl NoF wA).drew.mono (fun _ q => q.elim)).trans (gB.mono (fun i q => .inr (.inr (.inl q)))) (fun i q => .inl q)) (fun i q => .inl q)
    clear mA gA gB c2 e0 e1 e2 e3 z0 z1 z2 z3 lb lf
    go_region
    all_goals
      clear rB x3 xl y1 y2
      go_wp2_with fail
      have lb := hB.hd.lt
      have y1 : wB.cell? ⟨w.heap.size, 0, none⟩ = some (.int .i64 k) := by rw [gAB.cell (p := ⟨w.heap.size, 0, none⟩) (by show w.heap.size < _; omega) hno1]; exact b1
      have HB := Lib.hid hB
      have GB := Lib.hid gAB
      clear hB gAB
      go_still_tail 4, (by kernel_rfl)
      go_wp2_with fail
      refine (mp_dropE (HB.out.fr0 ((Fr.refl NoF wB).drew)) hk).mono ?_
      rintro e wC ⟨rfl, hC, gC⟩
      have gAC : Fr p.own w2 wC := GB.out.trans (((Fr.refl NoF wB).drew.mono (fun _ q => q.elim)).trans gC (fun i q => .inl q)) (fun i q => .inl q)
      obtain ⟨F3, h3, g3, q3⟩ := KS.out wC hC gAC
      have z1 : wC.cell? ⟨w.heap.size, 0, none⟩ = some (.int .i64 k) := by rw [gAC.cell (p := ⟨w.heap.size, 0, none⟩) (by show w.heap.size < _; omega) hno1]; exact b1
      have z2 : wC.cell? ⟨w.heap.size + 1, 0, none⟩ = some (.int .u32 id) := by rw [gAC.cell (p := ⟨w.heap.size + 1, 0, none⟩) (by show w.heap.size + 1 < _; omega) hno2]; exact b2
      have hs2 := gAC.size
      have KC := Lib.hid (KT.out wC F3 h3 z1 z2 (by omega) (fun q => (q3 _ q).elim hnF1 (fun q => by omega)) (fun q => (q3 _ q).elim hnF2 (fun q => by omega)))
      have G3 := Lib.hid g3
      have Q3 := Lib.hid q3
      clear hC gC gAC h3 g3 q3 z1 z2 KT KS HB GB y1
      go_wp2_with fail
      refine KC.out.mono ?_
      rintro e w3 ⟨rfl, h4⟩
      have H4 := Lib.hid h4
      clear h4
      go_wp2
      go_returns
      exact ⟨rfl, Led.trans (R := fun _ _ => True) (B4.out.mono (fun _ q => q.elim)) (fun i q => .inl q) (Led.trans (R := fun _ _ => True) G3.out Q3.out H4.out)⟩
end
end Go.Proofs.YtmpjnphnljakiaaGreatDoor
namespace Go.Proofs.YtmpjnphnljakiaaGreatDoor
open Go.RowKit Go.Maps
set_option linter.unusedVariables false
set_option linter.unusedSimpArgs false
set_option linter.unusedSectionVars false
set_option maxRecDepth 100000
section
variable {τ : Type} {P : Adv τ} {RR : World → τ → (Nat → Prop) → Prop} {ok : Nat → τ → (Nat → Nat) → (Nat → Bool) → Prop} {p : PP} (S : RepSys P RR p.pb p.rv p.n ok) {w w' : World} {T : PT τ} {m : Nat} {F : Nat → Prop}
include S
set_option maxHeartbeats 4000000 in
theorem touch_zero (H : PI RR p T m w F) (hm : m < 80000) {k : Nat} (hk : k < p.n) (h1 : 1 ≤ (T.f k).id) {pg : Nat → Nat} {ev : Nat → Bool} (ho : ok m T.A pg ev) (h0 : pg k = (T.f k).id) (hp : (T.f k).pins = 0) : Calls Tryz.prog 51 #[p.ptr, .int .i64 k] w fun e w' => e = .returned (.tuple #[]) ∧
    Led (PI RR p { T with f := upd T.f k { T.f k with pins := (T.f k).pins + 1 }, I := updB T.I k false, A := P.set (P.access T.A k (T.f k).id) k false } (m + 2)) F w w' := by
  obtain ⟨b1, b3, b4⟩ := box1 w (.int .i64 k) 3
  have H1 := H.fr0 S b4
  have lb := H1.me.hd.lt
  have lf := H1.me.fr.lt
  have hlt := H.lt S
  have c2 : (w.alloc (.cells #[.int .i64 k] 3)).cell? ⟨p.pb, 2, none⟩ = some (.slice (some ⟨p.fb, 0, none⟩) p.n p.n) := H1.me.ce 2 (by omega)
  have hn := H.me.hn
  obtain ⟨e0, e1, e2, e3⟩ := H1.me.cf hk
  have hu := (H.me.bd.2 k).1
  have hbf := H.me.bd.2 k
  have hnF1 : ¬ F w.heap.size := fun q => by have := hlt _ q; omega
  have hnF2 : ¬ F (w.heap.size + 1) := fun q => by have := hlt _ q; omega
  have okA := S.okOld ho (by omega) h1 hk h0
  have hpg : ¬ pg k = 0 := by omega
  have KT1 : Hid (∀ w3, Fr NoF w w3 → w3.cell? ⟨w.heap.size, 0, none⟩ = some (.int .i64 k) → w3.cell? ⟨w.heap.size + 1, 0, none⟩ = some (.int .u32 (T.f k).id) → w.heap.size + 1 < w3.heap.size →
    Calls Tryz.prog 55 #[p.ptr, .func (.func 71) #[] #[.pointer (some ⟨w.heap.size, 0, none⟩), .pointer (some ⟨w.heap.size + 1, 0, none⟩)]] w3 fun e w' => e = .returned (.tuple #[]) ∧ Led (PI RR p { T with A := P.access T.A k (T.f k).id } m) F w3 w') :=
    fun w3 g q1 q2 q3 => (H.fr0 S g).tell2 S own_t1 (fun FR hr hF => S.acc hr ho (by omega) h1 hu hk (.inl h0) q1 q2 (by omega) q3 (fun q => hnF1 (hF _ q)) (fun q => hnF2 (hF _ q)) (.inr (.inr rfl)))
  have KP : Hid (∀ w3 F3 z, PI RR p { T with I := updB T.I k false, A := P.set (P.access T.A k (T.f k).id) k false } m w3 F3 → z = (((T.f k).pins + 1 : Nat) : Int) → Led (PI RR p { T with f := upd T.f k { T.f k with pins := (T.f k).pins + 1 }, I := updB T.I k false, A := P.set (P.access T.A k (T.f k).id) k false } (m + 2)) F3 w3 (w3.setCell ⟨p.fb, k * 4 + 2, none⟩ (.int .i64 z)).drew) := fun w3 F3 z h3 hz => by
    subst hz
    obtain ⟨q1, q2⟩ := h3.me.put1 (m' := m + 2) (j := 2) hk { T.f k with pins := (T.f k).pins + 1 } (.int .i64 (((T.f k).pins + 1 : Nat) : Int)) (frV_setp T.f k _) (by omega) ⟨hbf.1, hbf.2.1, by show (T.f k).pins + 1 ≤ m + 2; omega⟩
    exact h3.set (q1.fr0 ((Fr.refl NoF _).drew)) ((q2.drew).mono (fun i q => .inr (.inl q))) (by omega) S
  have KD : Hid (∀ w3 F3, PI RR p { T with A := P.access T.A k (T.f k).id } m w3 F3 → Calls Tryz.prog 69 #[.pointer (some ⟨p.pb, 7, none⟩), .int .i64 k] w3 fun e w' => e = .returned (.tuple #[]) ∧ Led (PI RR p { T with I := updB T.I k false, A := P.access T.A k (T.f k).id } m) F3 w3 w') := fun w3 F3 h3 => by
    refine (mp_dropI h3.me hk).mono ?_
    rintro e w4 ⟨he, h4, g4⟩
    exact ⟨he, h3.set h4 g4 (Nat.le_refl _) S⟩
  have KT2 : Hid (∀ w3 F3, PI RR p { T with I := updB T.I k false, A := P.access T.A k (T.f k).id } m w3 F3 → w3.cell? ⟨w.heap.size, 0, none⟩ = some (.int .i64 k) → w.heap.size < w3.heap.size → ¬ F3 w.heap.size →
    Calls Tryz.prog 55 #[p.ptr, .func (.func 72) #[] #[.pointer (some ⟨w.heap.size, 0, none⟩)]] w3 fun e w' => e = .returned (.tuple #[]) ∧ Led (PI RR p { T with I := updB T.I k false, A := P.set (P.access T.A k (T.f k).id) k false } m) F3 w3 w') :=
    fun w3 F3 h3 q1 q2 q3 => h3.tell1 S own_t2 (fun FR hr hF => S.setF hr okA (by omega) hk hpg q1 q2 (fun q => q3 (hF _ q)))
  have KX : Hid (∀ w3 F3 (A : τ) (I : Nat → Bool), PI RR p { T with I := I, A := A } m w3 F3 → w3.cell? ⟨p.pb, 2, none⟩ = some (.slice (some ⟨p.fb, 0, none⟩) p.n p.n) ∧ w3.cell? ⟨p.fb, k * 4 + 2, none⟩ = some (.int .i64 (T.f k).pins) ∧ w3.frozen? ⟨p.fb, k * 4 + 2, none⟩ = false ∧ p.pb < w3.heap.size ∧ p.fb < w3.heap.size) :=
    fun w3 F3 A I h3 => ⟨h3.me.ce 2 (by omega), (h3.me.cf hk).2.2.1, h3.me.fr.frozen _, h3.me.hd.lt, h3.me.fr.lt⟩
  have HS : Hid (∀ (A : τ) (I : Nat → Bool) w3 F3, PI RR p { T with I := I, A := A } m w3 F3 → PI RR p { T with I := I, A := A } m w3.drew F3) := fun A I w3 F3 h3 => h3.fr0 S ((Fr.refl NoF _).drew)
  have hxpm : (T.f k).pins < 900000 := by have := hbf.2.2; omega
  have hpI : (((T.f k).pins : Nat) : Int) = 0 := by omega
  generalize hxi : (T.f k).id = xi at *
  generalize hxv : (T.f k).val = xv at *
  generalize hxp : (T.f k).pins = xp at *
  generalize hxd : (T.f k).dirty = xd at *
  have B4 := Lib.hid b4
  generalize hw2 : (w.alloc (.cells #[.int .i64 k] 3)) = w2 at *
  unfold PP.ptr at *
  clear H H1 ho hlt b4 h0 okA S hbf hxi hxv hxp hxd hu hp
  go_enter Tryz.func51, Tryz.ntmps51
  go_wp2_with fail
  try rw [hw2]
  clear hw2
  have fN : Fr NoF w2 (w2.alloc (.cells #[.int .u32 0] 44)) := (Fr.refl NoF w2).alloc _
  have d2 : (w2.alloc (.cells #[.int .u32 0] 44)).cell? ⟨p.pb, 2, none⟩ = some (.slice (some ⟨p.fb, 0, none⟩) p.n p.n) := by rw [fN.cell (p := ⟨p.pb, 2, none⟩) lb id]; exact c2
  have d0 : (w2.alloc (.cells #[.int .u32 0] 44)).cell? ⟨p.fb, k * 4, none⟩ = some (.int .u32 xi) := by rw [fN.cell (p := ⟨p.fb, k * 4, none⟩) lf id]; exact e0
  have d1 : (w2.alloc (.cells #[.int .u32 0] 44)).cell? ⟨w.heap.size, 0, none⟩ = some (.int .i64 k) := by rw [fN.cell (p := ⟨w.heap.size, 0, none⟩) (by show w.heap.size < _; omega) id]; exact b1
  have dl := alloc_size w2 (.cells #[.int .u32 0] 44)
  clear fN
  go_region
  all_goals
    go_wp2_with fail
    clear d0 d1 d2 dl
    have fA : Fr NoF w2 (w2.alloc (.cells #[.int .u32 xi] 44)).drew := ((Fr.refl NoF w2).alloc _).drew
    have gA : Fr NoF w (w2.alloc (.cells #[.int .u32 xi] 44)).drew := B4.out.trans fA (fun _ q => q.elim)
    have x1 : (w2.alloc (.cells #[.int .u32 xi] 44)).drew.cell? ⟨w.heap.size, 0, none⟩ = some (.int .i64 k) := by rw [fA.cell (p := ⟨w.heap.size, 0, none⟩) (by show w.heap.size < _; omega) id]; exact b1
    have x2 : (w2.alloc (.cells #[.int .u32 xi] 44)).drew.cell? ⟨w.heap.size + 1, 0, none⟩ = some (.int .u32 xi) := by
      have := ((blk1 w2 (.int .u32 xi) 44).drew).cell (i := 0) (by omega)
      rw [b3] at this; exact this
    have x3 : (w2.alloc (.cells #[.int .u32 xi] 44)).drew.heap.size = w2.heap.size + 1 := alloc_size w2 _
    generalize (w2.alloc (.cells #[.int .u32 xi] 44)).drew = wA at fA gA x1 x2 x3 ⊢
    have KC := Lib.hid (KT1.out wA gA x1 x2 (by omega))
    have GA := Lib.hid gA
    clear KT1 fA gA x2
    refine KC.out.mono ?_
    clear KC
    rintro e w3 ⟨rfl, F3, h3, g3, q3⟩
    obtain ⟨y1, y2, y3, y4, y5⟩ := KX.out w3 F3 _ _ h3
    have y6 : w3.cell? ⟨w.heap.size, 0, none⟩ = some (.int .i64 k) := by rw [g3.cell (p := ⟨w.heap.size, 0, none⟩) (by show w.heap.size < _; omega) hnF1]; exact x1
    have y7 := g3.size
    have H3 := Lib.hid h3
    have G3 := Lib.hid g3
    have Q3 := Lib.hid q3
    have n3 : ¬ F3 w.heap.size := fun q => (q3 _ q).elim hnF1 (fun q => by omega)
    clear h3 g3 q3 x1 c2 e0 e1 e2 e3 lb lf
    go_wp2_with fail
    rw [hpI] at y2
    go_region
    all_goals
      go_wp2_with fail
      have y6d : w3.drew.cell? ⟨w.heap.size, 0, none⟩ = some (.int .i64 k) := y6
      have y4d : p.pb < w3.drew.heap.size := y4
      have y7d : w2.heap.size + 1 ≤ w3.drew.heap.size := by have : w3.drew.heap.size = w3.heap.size := rfl; omega
      have H3d := Lib.hid (HS.out _ _ _ _ H3.out)
      have fD : Fr F3 w3 w3.drew := (Fr.refl _ w3).drew
      have FD := Lib.hid fD
      generalize w3.drew = w3d at y6d y4d y7d H3d FD ⊢
      clear fD y1 y2 y3 y4 y5 y6
      go_still_tail 4, (by kernel_rfl)
      go_wp2_with fail
      refine (KD.out _ F3 (HS.out _ _ _ _ H3d.out)).mono ?_
      rintro e w4 ⟨rfl, F4, h4, g4, q4⟩
      obtain ⟨z1, z2, z3, z4, z5⟩ := KX.out w4 F4 _ _ h4
      have z6 : w4.cell? ⟨w.heap.size, 0, none⟩ = some (.int .i64 k) := by rw [g4.cell (p := ⟨w.heap.size, 0, none⟩) (by show w.heap.size < w3d.heap.size; omega) n3]; exact y6d
      have z7 := g4.size
      have z8 : w.heap.size < w4.heap.size := Nat.lt_of_lt_of_le (by show w.heap.size < w3d.heap.size; omega) z7
      have H4 := Lib.hid h4
      have G4 := Lib.hid g4
      have Q4 := Lib.hid q4
      have n4 : ¬ F4 w.heap.size := fun q => (q4 _ q).elim n3 (fun q => by have : w3d.heap.size ≤ w.heap.size := q; omega)
      clear h4 g4 q4
      go_wp2_with fail
      refine (KT2.out w4 F4 H4.out z6 z8 n4).mono ?_
      rintro e w5 ⟨rfl, F5, h5, g5, q5⟩
      obtain ⟨u1, u2, u3, u4, u5⟩ := KX.out w5 F5 _ _ h5
      have u6 : w5.cell? ⟨w.heap.size, 0, none⟩ = some (.int .i64 k) := by rw [g5.cell (p := ⟨w.heap.size, 0, none⟩) z8 n4]; exact z6
      have H5 := Lib.hid h5
      have G5 := Lib.hid g5
      have Q5 := Lib.hid q5
      clear h5 g5 q5 z1 z2 z3 z4 z5 z6
      have hcw : IntKind.i64.wrap ((xp : Int) + 1) = (xp : Int) + 1 := IntWalk.i64_in _ (by omega)
      go_wp2_with fail
      go_region
      all_goals
        go_wp2
        go_returns
        refine ⟨rfl, Led.trans (R := fun _ _ => True) (GA.out.mono (fun _ q => q.elim)) (fun i q => .inl q) (Led.trans (R := fun _ _ => True) G3.out Q3.out (Led.trans (R := fun _ _ => True) (FD.out.trans (((Fr.refl _ w3d).drew).trans G4.out (fun i q => .inl q)) (fun i q => .inl q)) (fun i q => (Q4.out i q).imp id (fun q => by have : w3d.heap.size ≤ i := q; have := FD.out.size; omega)) (Led.trans (R := fun _ _ => True) G5.out Q5.out (KP.out w5 F5 _ H5.out ?_))))⟩
        first | rfl | omega | simp
set_option maxHeartbeats 4000000 in
theorem touch_more (H : PI RR p T m w F) (hm : m < 80000) {k : Nat} (hk : k < p.n) (h1 : 1 ≤ (T.f k).id) {pg : Nat → Nat} {ev : Nat → Bool} (ho : ok m T.A pg ev) (h0 : pg k = (T.f k).id) (hp : ¬ (T.f k).pins = 0) (hpm : (T.f k).pins < m) : Calls Tryz.prog 51 #[p.ptr, .int .i64 k] w fun e w' => e = .returned (.tuple #[]) ∧
    Led (PI RR p { T with f := upd T.f k { T.f k with pins := (T.f k).pins + 1 }, A := P.access T.A k (T.f k).id } (m + 2)) F w w' := by
  obtain ⟨b1, b3, b4⟩ := box1 w (.int .i64 k) 3
  have H1 := H.fr0 S b4
  have lb := H1.me.hd.lt
  have lf := H1.me.fr.lt
  have hlt := H.lt S
  have c2 : (w.alloc (.cells #[.int .i64 k] 3)).cell? ⟨p.pb, 2, none⟩ = some (.slice (some ⟨p.fb, 0, none⟩) p.n p.n) := H1.me.ce 2 (by omega)
  have hn := H.me.hn
  obtain ⟨e0, e1, e2, e3⟩ := H1.me.cf hk
  have hu := (H.me.bd.2 k).1
  have hbf := H.me.bd.2 k
  have hnF1 : ¬ F w.heap.size := fun q => by have := hlt _ q; omega
  have hnF2 : ¬ F (w.heap.size + 1) := fun q => by have := hlt _ q; omega
  have okA := S.okOld ho (by omega) h1 hk h0
  have hpg : ¬ pg k = 0 := by omega
  have KT1 : Hid (∀ w3, Fr NoF w w3 → w3.cell? ⟨w.heap.size, 0, none⟩ = some (.int .i64 k) → w3.cell? ⟨w.heap.size + 1, 0, none⟩ = some (.int .u32 (T.f k).id) → w.heap.size + 1 < w3.heap.size →
    Calls Tryz.prog 55 #[p.ptr, .func (.func 71) #[] #[.pointer (some ⟨w.heap.size, 0, none⟩), .pointer (some ⟨w.heap.size + 1, 0, none⟩)]] w3 fun e w' => e = .returned (.tuple #[]) ∧ Led (PI RR p { T with A := P.access T.A k (T.f k).id } m) F w3 w') :=
    fun w3 g q1 q2 q3 => (H.fr0 S g).tell2 S own_t1 (fun FR hr hF => S.acc hr ho (by omega) h1 hu hk (.inl h0) q1 q2 (by omega) q3 (fun q => hnF1 (hF _ q)) (fun q => hnF2 (hF _ q)) (.inr (.inr rfl)))
  have KP : Hid (∀ w3 F3 z, PI RR p { T with A := P.access T.A k (T.f k).id } m w3 F3 → z = (((T.f k).pins + 1 : Nat) : Int) → Led (PI RR p { T with f := upd T.f k { T.f k with pins := (T.f k).pins + 1 }, A := P.access T.A k (T.f k).id } (m + 2)) F3 w3 (w3.setCell ⟨p.fb, k * 4 + 2, none⟩ (.int .i64 z)).drew) := fun w3 F3 z h3 hz => by
    subst hz
    obtain ⟨q1, q2⟩ := h3.me.put1 (m' := m + 2) (j := 2) hk { T.f k with pins := (T.f k).pins + 1 } (.int .i64 (((T.f k).pins + 1 : Nat) : Int)) (frV_setp T.f k _) (by omega) ⟨hbf.1, hbf.2.1, by show (T.f k).pins + 1 ≤ m + 2; omega⟩
    exact h3.set (q1.fr0 ((Fr.refl NoF _).drew)) ((q2.drew).mono (fun i q => .inr (.inl q))) (by omega) S
  have KX : Hid (∀ w3 F3 (A : τ) (I : Nat → Bool), PI RR p { T with I := I, A := A } m w3 F3 → w3.cell? ⟨p.pb, 2, none⟩ = some (.slice (some ⟨p.fb, 0, none⟩) p.n p.n) ∧ w3.cell? ⟨p.fb, k * 4 + 2, none⟩ = some (.int .i64 (T.f k).pins) ∧ w3.frozen? ⟨p.fb, k * 4 + 2, none⟩ = false ∧ p.pb < w3.heap.size ∧ p.fb < w3.heap.size) :=
    fun w3 F3 A I h3 => ⟨h3.me.ce 2 (by omega), (h3.me.cf hk).2.2.1, h3.me.fr.frozen _, h3.me.hd.lt, h3.me.fr.lt⟩
  have HS : Hid (∀ (A : τ) (I : Nat → Bool) w3 F3, PI RR p { T with I := I, A := A } m w3 F3 → PI RR p { T with I := I, A := A } m w3.drew F3) := fun A I w3 F3 h3 => h3.fr0 S ((Fr.refl NoF _).drew)
  have hxpm : (T.f k).pins < 900000 := by have := hbf.2.2; omega
  have hpI : ((((T.f k).pins : Nat) : Int) == 0) = false := by simp <;> exact hp
  generalize hxi : (T.f k).id = xi at *
  generalize hxv : (T.f k).val = xv at *
  generalize hxp : (T.f k).pins = xp at *
  generalize hxd : (T.f k).dirty = xd at *
  have B4 := Lib.hid b4
  generalize hw2 : (w.alloc (.cells #[.int .i64 k] 3)) = w2 at *
  unfold PP.ptr at *
  clear H H1 ho hlt b4 h0 okA S hbf hxi hxv hxp hxd hu hp
  go_enter Tryz.func51, Tryz.ntmps51
  go_wp2_with fail
  try rw [hw2]
  clear hw2
  have fN : Fr NoF w2 (w2.alloc (.cells #[.int .u32 0] 44)) := (Fr.refl NoF w2).alloc _
  have d2 : (w2.alloc (.cells #[.int .u32 0] 44)).cell? ⟨p.pb, 2, none⟩ = some (.slice (some ⟨p.fb, 0, none⟩) p.n p.n) := by rw [fN.cell (p := ⟨p.pb, 2, none⟩) lb id]; exact c2
  have d0 : (w2.alloc (.cells #[.int .u32 0] 44)).cell? ⟨p.fb, k * 4, none⟩ = some (.int .u32 xi) := by rw [fN.cell (p := ⟨p.fb, k * 4, none⟩) lf id]; exact e0
  have d1 : (w2.alloc (.cells #[.int .u32 0] 44)).cell? ⟨w.heap.size, 0, none⟩ = some (.int .i64 k) := by rw [fN.cell (p := ⟨w.heap.size, 0, none⟩) (by show w.heap.size < _; omega) id]; exact b1
  have dl := alloc_size w2 (.cells #[.int .u32 0] 44)
  clear fN
  go_region
  all_goals
    go_wp2_with fail
    clear d0 d1 d2 dl
    have fA : Fr NoF w2 (w2.alloc (.cells #[.int .u32 xi] 44)).drew := ((Fr.refl NoF w2).alloc _).drew
    have gA : Fr NoF w (w2.alloc (.cells #[.int .u32 xi] 44)).drew := B4.out.trans fA (fun _ q => q.elim)
    have x1 : (w2.alloc (.cells #[.int .u32 xi] 44)).drew.cell? ⟨w.heap.size, 0, none⟩ = some (.int .i64 k) := by rw [fA.cell (p := ⟨w.heap.size, 0, none⟩) (by show w.heap.size < _; omega) id]; exact b1
    have x2 : (w2.alloc (.cells #[.int .u32 xi] 44)).drew.cell? ⟨w.heap.size + 1, 0, none⟩ = some (.int .u32 xi) := by
      have := ((blk1 w2 (.int .u32 xi) 44).drew).cell (i := 0) (by omega)
      rw [b3] at this; exact this
    have x3 : (w2.alloc (.cells #[.int .u32 xi] 44)).drew.heap.size = w2.heap.size + 1 := alloc_size w2 _
    generalize (w2.alloc (.cells #[.int .u32 xi] 44)).drew = wA at fA gA x1 x2 x3 ⊢
    have KC := Lib.hid (KT1.out wA gA x1 x2 (by omega))
    have GA := Lib.hid gA
    clear KT1 fA gA x2
    refine KC.out.mono ?_
    clear KC
    rintro e w3 ⟨rfl, F3, h3, g3, q3⟩
    obtain ⟨y1, y2, y3, y4, y5⟩ := KX.out w3 F3 _ _ h3
    have y6 : w3.cell? ⟨w.heap.size, 0, none⟩ = some (.int .i64 k) := by rw [g3.cell (p := ⟨w.heap.size, 0, none⟩) (by show w.heap.size < _; omega) hnF1]; exact x1
    have y7 := g3.size
    have H3 := Lib.hid h3
    have G3 := Lib.hid g3
    have Q3 := Lib.hid q3
    have n3 : ¬ F3 w.heap.size := fun q => (q3 _ q).elim hnF1 (fun q => by omega)
    clear h3 g3 q3 x1 c2 e0 e1 e2 e3 lb lf
    go_wp2_with fail
    go_region
    all_goals
      go_wp2_with fail
      have hcw : IntKind.i64.wrap ((xp : Int) + 1) = (xp : Int) + 1 := IntWalk.i64_in _ (by omega)
      have H3d := Lib.hid (HS.out _ _ _ _ H3.out)
      have FD : Hid (Fr F3 w3 w3.drew) := (Fr.refl _ w3).drew
      obtain ⟨v1, v2, v3, v4, v5⟩ := KX.out w3.drew F3 _ _ H3d.out
      have v6 : w3.drew.cell? ⟨w.heap.size, 0, none⟩ = some (.int .i64 k) := y6
      generalize w3.drew = w3d at v1 v2 v3 v4 v5 v6 H3d FD ⊢
      clear y1 y2 y3 y4 y5 y6
      go_region
      all_goals
        go_wp2
        go_returns
        refine ⟨rfl, Led.trans (R := fun _ _ => True) (GA.out.mono (fun _ q => q.elim)) (fun i q => .inl q) (Led.trans (R := fun _ _ => True) G3.out Q3.out (Led.trans (R := fun _ _ => True) FD.out (fun i q => .inl q) (KP.out w3d F3 _ H3d.out ?_)))⟩
        first | rfl | omega | simp
end
end Go.Proofs.YtmpjnphnljakiaaGreatDoor
namespace Go.Proofs.YtmpjnphnljakiaaGreatDoor
open Go.RowKit Go.Maps
set_option linter.unusedVariables false
set_option linter.unusedSimpArgs false
set_option linter.unusedSectionVars false
set_option maxRecDepth 100000
section
variable {τ : Type} {P : Adv τ} {RR : World → τ → (Nat → Prop) → Prop} {ok : Nat → τ → (Nat → Nat) → (Nat → Bool) → Prop} {p : PP} (S : RepSys P RR p.pb p.rv p.n ok) {w w' : World} {T : PT τ} {m : Nat} {F : Nat → Prop}
include S
theorem ask_none (H : PI RR p T m w F) (hm : m < 80000) {id : Nat} (h1 : 1 ≤ id) (hu : id < 4294967296) {pg : Nat → Nat} {ev : Nat → Bool} (ho : ok m T.A pg ev) (hno : ∀ i, i < p.n → ¬ pg i = id) (hex : ∃ x, Goer p.n pg ev x) (hv : P.victim T.A id = none) : Calls Tryz.prog 82 #[p.ptr, .int .u32 id] w fun e w' => (∃ x : Int, e = .returned (.tuple #[.int .i64 x, .bool false])) ∧
    Led (PI RR p { T with A := P.aft T.A id } m) F w w' := H.told S (Q := fun e _ => ∃ x : Int, e = .returned (.tuple #[.int .i64 x, .bool false])) (fun FR hr hF hp => by
      have := S.ask (pb := p.pb) hr ho (by omega) h1 hu hno hex (H.me.ce 1 (by omega)) H.me.hd.lt hp
      rw [hv] at this
      exact this)
theorem ask_some (H : PI RR p T m w F) (hm : m < 80000) {id a : Nat} (h1 : 1 ≤ id) (hu : id < 4294967296) {pg : Nat → Nat} {ev : Nat → Bool} (ho : ok m T.A pg ev) (hno : ∀ i, i < p.n → ¬ pg i = id) (hex : ∃ x, Goer p.n pg ev x) (hv : P.victim T.A id = some a) : Calls Tryz.prog 82 #[p.ptr, .int .u32 id] w fun e w' => e = .returned (.tuple #[.int .i64 a, .bool true]) ∧
    Led (PI RR p { T with A := P.aft T.A id } m) F w w' := H.told S (Q := fun e _ => e = .returned (.tuple #[.int .i64 a, .bool true])) (fun FR hr hF hp => by
      have := S.ask (pb := p.pb) hr ho (by omega) h1 hu hno hex (H.me.ce 1 (by omega)) H.me.hd.lt hp
      rw [hv] at this
      exact this)
set_option maxHeartbeats 4000000 in
theorem victim_yes (H : PI RR p T m w F) (hm : m < 80000) {id a : Nat} (h1 : 1 ≤ id) (hu : id < 4294967296) {pg : Nat → Nat} {ev : Nat → Bool} (ho : ok m T.A pg ev) (hno : ∀ i, i < p.n → ¬ pg i = id) (hex : ∃ x, Goer p.n pg ev x) (hv : P.victim T.A id = some a) (hI : T.I a = true) : Calls Tryz.prog 63 #[p.ptr, .int .u32 id] w fun e w' => e = .returned (.int .i64 a) ∧
    Led (PI RR p { T with A := P.aft T.A id } m) F w w' := by
  have HA := Lib.hid (ask_some S H hm h1 hu ho hno hex hv)
  have KH : Hid (∀ w1 F1, PI RR p { T with A := P.aft T.A id } m w1 F1 → ∀ (t : TypeId) d, Calls Tryz.prog 25 #[.pointer (some ⟨p.pb, 7, none⟩), .int .i64 a] ((w1.alloc (.cells #[.int .i64 a] t)).drewN d) fun e w' => e = .returned (.bool true) ∧ ((w1.alloc (.cells #[.int .i64 a] t)).drewN d) = w') := fun w1 F1 h t d => by
    have := mp_hasI (h.fr0 S (((Fr.refl NoF w1).alloc (.cells #[.int .i64 a] t)).drewN d)).me (a : Int)
    dsimp only at this
    rw [show hasZ T.I (a : Int) = true from by unfold hasZ; rw [if_neg (by omega)]; exact hI] at this
    exact this
  have KL : Hid (∀ w1 F1, PI RR p { T with A := P.aft T.A id } m w1 F1 → p.pb < w1.heap.size) := fun w1 F1 h => h.me.hd.lt
  have KF : Hid (∀ w1 F1, PI RR p { T with A := P.aft T.A id } m w1 F1 → ∀ (t : TypeId) d, PI RR p { T with A := P.aft T.A id } m ((w1.alloc (.cells #[.int .i64 a] t)).drewN d) F1) := fun w1 F1 h t d => h.fr0 S (((Fr.refl NoF w1).alloc _).drewN d)
  unfold PP.ptr at *
  clear H S ho hno hex hv hI hu
  go_enter Tryz.func63, Tryz.ntmps63
  go_wp2_with fail
  refine HA.out.mono ?_
  rintro e w1 ⟨rfl, F1, hp1, g1, q1⟩
  have lb := KL.out w1 F1 hp1
  have HH := Lib.hid (KH.out w1 F1 hp1)
  have HP1 := Lib.hid hp1
  have G1 := Lib.hid g1
  have Q1 := Lib.hid q1
  clear hp1 g1 q1
  go_wp2_with fail
  obtain ⟨x1, x2, x3⟩ := box1 w1 (.int .i64 a) 3
  have xl : p.pb < (w1.alloc (.cells #[.int .i64 a] 3)).heap.size := by omega
  go_quiet ((go_at_call 25; exact qs (HH.out _ _)))
  go_wp2
  go_returns
  exact ⟨rfl, F1, KF.out w1 F1 HP1.out _ _, G1.out.trans (((Fr.refl _ w1).alloc _).drewN _) (fun i q => .inl q), Q1.out⟩
set_option maxHeartbeats 4000000 in
theorem victim_no (H : PI RR p T m w F) (hm : m < 80000) {id x0 : Nat} (h1 : 1 ≤ id) (hu : id < 4294967296) {pg : Nat → Nat} {ev : Nat → Bool} (ho : ok m T.A pg ev) (hno : ∀ i, i < p.n → ¬ pg i = id) (hg : Goer p.n pg ev x0) (hgI : ∀ x, T.I x = true → Goer p.n pg ev x) (hgJ : ∀ x, Goer p.n pg ev x → T.I x = true) (hv : ∀ a, P.victim T.A id = some a → T.I a = false) (hx0 : IsLeast T.I x0) : Calls Tryz.prog 63 #[p.ptr, .int .u32 id] w fun e w' => e = .returned (.int .i64 x0) ∧
    Led (PI RR p { T with A := P.remove (P.aft T.A id) x0, sc := T.sc + 1 } (m + 1)) F w w' := by
  have okN := S.okNo ho (by omega) h1 hno (fun a ha q => by have := hv a ha; rw [hgJ a q] at this; cases this)
  have HA : Hid (∃ b : Bool, Calls Tryz.prog 82 #[p.ptr, .int .u32 id] w fun e w' => (∃ x : Int, e = .returned (.tuple #[.int .i64 x, .bool b]) ∧ (b = true → hasZ T.I x = false)) ∧ Led (PI RR p { T with A := P.aft T.A id } m) F w w') := by
    cases hva : P.victim T.A id with
    | none =>
      refine ⟨false, (ask_none S H hm h1 hu ho hno ⟨x0, hg⟩ hva).mono ?_⟩
      rintro e w' ⟨⟨x, he⟩, h⟩
      exact ⟨⟨x, he, fun q => by cases q⟩, h⟩
    | some a =>
      refine ⟨true, (ask_some S H hm h1 hu ho hno ⟨x0, hg⟩ hva).mono ?_⟩
      rintro e w' ⟨he, h⟩
      exact ⟨⟨a, he, fun q => by unfold hasZ; rw [if_neg (by omega)]; exact hv a hva⟩, h⟩
  have KH : Hid (∀ w1 F1 (x : Int), PI RR p { T with A := P.aft T.A id } m w1 F1 → hasZ T.I x = false → ∀ (t : TypeId) d, Calls Tryz.prog 25 #[.pointer (some ⟨p.pb, 7, none⟩), .int .i64 x] ((w1.alloc (.cells #[.int .i64 x] t)).drewN d) fun e w' => e = .returned (.bool false) ∧ ((w1.alloc (.cells #[.int .i64 x] t)).drewN d) = w') := fun w1 F1 x h hx t d => by
    have := mp_hasI (h.fr0 S (((Fr.refl NoF w1).alloc (.cells #[.int .i64 x] t)).drewN d)).me x
    dsimp only at this
    rw [hx] at this
    exact this
  have KS : Hid (∀ w1 wq F1, PI RR p { T with A := P.aft T.A id } m w1 F1 → Fr NoF w1 wq → PI RR p { T with A := P.aft T.A id, sc := T.sc + 1 } (m + 1) (wq.setCell ⟨p.pb, 10, none⟩ (.int .i64 ((T.sc : Int) + 1))) F1 ∧ Fr F1 w1 (wq.setCell ⟨p.pb, 10, none⟩ (.int .i64 ((T.sc : Int) + 1))) ∧ Fr p.own wq (wq.setCell ⟨p.pb, 10, none⟩ (.int .i64 ((T.sc : Int) + 1)))) := fun w1 wq F1 h0 f0 => by
    have h := h0.fr0 S f0
    obtain ⟨q1, q2⟩ := h.me.scan (x := T.sc + 1) (m' := m + 1) (by have q0 : T.sc ≤ m := h.me.bd.1; omega) (by omega)
    obtain ⟨FD, FR, H, hF⟩ := h
    have g : Fr p.own wq (wq.setCell ⟨p.pb, 10, none⟩ (.int .i64 ((T.sc : Int) + 1))) := q2.mono (fun i q => .inl q)
    exact ⟨⟨FD, FR, ⟨q1, (H.cd.fr g (fun i q k => (H.s1 i k).1 q)).more (by omega), S.fr H.rr g (fun i q k => (H.s1 i k).2 q), H.s1, H.s2, H.t1⟩, hF⟩, (f0.mono (fun _ q => q.elim)).trans g (fun i q => .inl ((hF i).2 (.inl q))), g⟩
  have KL : Hid (∀ w1 F1 (A : τ) (sc k : Nat), PI RR p { T with A := A, sc := sc } k w1 F1 → p.pb < w1.heap.size ∧ w1.cell? ⟨p.pb, 10, none⟩ = some (.int .i64 sc) ∧ w1.frozen? ⟨p.pb, 10, none⟩ = false ∧ ∀ i, F1 i → i < w1.heap.size) := fun w1 F1 A sc k h => ⟨h.me.hd.lt, h.me.ce 10 (by omega), h.me.hd.frozen 10, h.lt S⟩
  have KN : Hid (∀ w1 w2 F1 (A : τ) (sc k : Nat), PI RR p { T with A := A, sc := sc } k w1 F1 → Fr NoF w1 w2 → PI RR p { T with A := A, sc := sc } k w2 F1) := fun w1 w2 F1 A sc k h g => h.fr0 S g
  have KW : Hid (∀ w1 w2 F1 b (A : τ) (sc k : Nat), PI RR p { T with A := A, sc := sc } k w1 F1 → Fr (fun i => i = b) w1 w2 → ¬ F1 b → ¬ b = 0 → PI RR p { T with A := A, sc := sc } k w2 F1) := fun w1 w2 F1 b A sc k h g q q2 => h.fro S g (fun i q3 q4 => q (q4 ▸ q3)) (fun q3 => q2 q3.symm)
  have KT : Hid (∀ w1 F1, PI RR p { T with A := P.aft T.A id, sc := T.sc + 1 } (m + 1) w1 F1 → 0 < w1.heap.size) := fun w1 F1 h => h.me.tab.lt
  have KI : Hid (∀ w1 F1, PI RR p { T with A := P.aft T.A id, sc := T.sc + 1 } (m + 1) w1 F1 → Calls Tryz.prog 62 #[.pointer (some ⟨p.pb, 7, none⟩)] w1 fun e w' => e = .returned (.int .i64 x0) ∧ w1 = w') := fun w1 F1 h => by
    refine (mp_firstI h.me).mono ?_
    rintro e w' ⟨rfl, ⟨_, q, _⟩ | ⟨x, hx, hl, he⟩⟩
    · have hq : T.I x0 = false := q x0
      rw [hx0.1] at hq; cases hq
    · have l1 : T.I x = true := hl.1
      have l2 : ∀ y, y < x → T.I y = false := hl.2
      have e : x = x0 := by
        rcases Nat.lt_trichotomy x x0 with q | q | q
        · have := hx0.2 x q; rw [l1] at this; cases this
        · exact q
        · have := l2 x0 q; rw [hx0.1] at this; cases this
      rw [e] at he; exact ⟨he, rfl⟩
  have KX : Hid (∀ w3 F3 b, PI RR p { T with A := P.aft T.A id, sc := T.sc + 1 } (m + 1) w3 F3 → w3.cell? ⟨b, 0, none⟩ = some (.int .i64 x0) → b < w3.heap.size → ¬ F3 b →
    Calls Tryz.prog 55 #[p.ptr, .func (.func 83) #[] #[.pointer (some ⟨b, 0, none⟩)]] w3 fun e w' => e = .returned (.tuple #[]) ∧ Led (PI RR p { T with A := P.remove (P.aft T.A id) x0, sc := T.sc + 1 } (m + 1)) F3 w3 w') :=
    fun w3 F3 b h3 q1 q2 q3 => h3.tell1 S own_v1 (fun FR hr hF => S.rem hr okN (by omega) hg.1 hg.2.1 q1 q2 (fun q => q3 (hF _ q)) (.inl rfl))
  have hsc : T.sc < 900000 := by have := H.me.bd.1; omega
  unfold PP.ptr at *
  clear H S ho hno hv hgI hgJ hg hx0 hu okN
  go_enter Tryz.func63, Tryz.ntmps63
  go_wp2_with fail
  obtain ⟨b, HC⟩ := HA.out
  refine HC.mono ?_
  clear HC HA
  rintro e w1 ⟨⟨z, rfl, hz⟩, F1, hp1, g1, q1⟩
  obtain ⟨lb, y1, y2, y3⟩ := KL.out w1 F1 _ _ _ hp1
  have nF1 : ¬ F1 w1.heap.size := fun q => by have := y3 _ q; omega
  clear y3
  have HP1 := Lib.hid hp1
  have G1 := Lib.hid g1
  have Q1 := Lib.hid q1
  clear hp1 g1 q1
  obtain ⟨x1, x2, x3⟩ := box1 w1 (.int .i64 z) 3
  have X3 := Lib.hid x3
  have x4 : (w1.alloc (.cells #[.int .i64 z] 3)).cell? ⟨p.pb, 10, none⟩ = some (.int .i64 T.sc) := by rw [x3.cell (p := ⟨p.pb, 10, none⟩) lb (fun q => q)]; exact y1
  have xl : p.pb < (w1.alloc (.cells #[.int .i64 z] 3)).heap.size := by omega
  have x5 : (w1.alloc (.cells #[.int .i64 z] 3)).frozen? ⟨p.pb, 10, none⟩ = false := by rw [x3.frozen (p := ⟨p.pb, 10, none⟩) lb (fun q => q)]; exact y2
  clear x3 y1 y2
  have hcw : IntKind.i64.wrap ((T.sc : Int) + 1) = (T.sc : Int) + 1 := IntWalk.i64_in _ (by omega)
  have KY : Hid (∀ wq, Fr NoF (w1.alloc (.cells #[.int .i64 z] 3)) wq → ∀ ws, ws = wq.setCell ⟨p.pb, 10, none⟩ (.int .i64 ((T.sc : Int) + 1)) → ws.cell? ⟨w1.heap.size, 0, none⟩ = some (.int .i64 z) ∧ ws.frozen? ⟨w1.heap.size, 0, none⟩ = false ∧ w1.heap.size < ws.heap.size ∧ p.pb < ws.heap.size ∧
      Calls Tryz.prog 55 #[.pointer (some ⟨p.pb, 0, none⟩), .func (.func 83) #[] #[.pointer (some ⟨w1.heap.size, 0, none⟩)]] (ws.setCell ⟨w1.heap.size, 0, none⟩ (.int .i64 x0)) fun e w' => e = .returned (.tuple #[]) ∧ w'.cell? ⟨w1.heap.size, 0, none⟩ = some (.int .i64 x0) ∧ Led (PI RR p { T with A := P.remove (P.aft T.A id) x0, sc := T.sc + 1 } (m + 1)) F w w') := fun wq hq ws hs => by
    obtain ⟨s1, s2, s3⟩ := KS.out w1 wq F1 HP1.out (((Fr.refl NoF w1).alloc _).trans hq (fun _ q => q.elim))
    rw [← hs] at s1 s2 s3
    have hpb : ¬ p.own w1.heap.size := fun q => nF1 (HP1.out.own _ q)
    have gB : Blk ws w1.heap.size 1 (fun _ => .int .i64 z) := ((blk1 w1 (.int .i64 z) 3).fr hq (fun q => q)).fr s3 hpb
    have gs : Fr (fun i => i = w1.heap.size) ws (ws.setCell ⟨w1.heap.size, 0, none⟩ (.int .i64 x0)) := (Fr.refl (fun i => i = w1.heap.size) ws).setCell (p := ⟨w1.heap.size, 0, none⟩) (.inl rfl) _
    have gB2 : Blk (ws.setCell ⟨w1.heap.size, 0, none⟩ (.int .i64 x0)) w1.heap.size 1 (fun _ => .int .i64 x0) := (gB.set 0 _).congr (fun i hi => by
      obtain rfl : i = 0 := by omega
      rw [upd_same])
    have hp2 := KW.out _ _ _ _ _ _ _ s1 gs nF1 (fun e => by have h9 : 0 < w1.heap.size := HP1.out.me.tab.lt; omega)
    refine ⟨gB.cell (by omega), gB.frozen 0, gB.lt, s1.me.hd.lt, (KX.out _ F1 _ hp2 (gB2.cell (by omega)) gB2.lt nF1).mono ?_⟩
    rintro e w' ⟨he, hl⟩
    refine ⟨he, ?_, Led.trans (R := fun _ _ => True) G1.out Q1.out (Led.trans (R := fun _ _ => True) (F1 := F1) (s2.trans gs (fun i q => .inr (by rw [q]; exact Nat.le_refl _))) (fun i q => .inl q) hl)⟩
    obtain ⟨F2, h2, g2, q2⟩ := hl
    rw [g2.cell (p := ⟨w1.heap.size, 0, none⟩) gB2.lt nF1]
    exact gB2.cell (by omega)
  have KZ : Hid (∀ wq, Fr NoF (w1.alloc (.cells #[.int .i64 z] 3)) wq → ∀ ws, ws = wq.setCell ⟨p.pb, 10, none⟩ (.int .i64 ((T.sc : Int) + 1)) → Calls Tryz.prog 62 #[.pointer (some ⟨p.pb, 7, none⟩)] ws fun e w' => e = .returned (.int .i64 x0) ∧ w'.cell? ⟨w1.heap.size, 0, none⟩ = some (.int .i64 z) ∧ w'.frozen? ⟨w1.heap.size, 0, none⟩ = false ∧ w1.heap.size < w'.heap.size ∧ p.pb < w'.heap.size ∧ Calls Tryz.prog 55 #[.pointer (some ⟨p.pb, 0, none⟩), .func (.func 83) #[] #[.pointer (some ⟨w1.heap.size, 0, none⟩)]] (w'.setCell ⟨w1.heap.size, 0, none⟩ (.int .i64 x0)) fun e w' => e = .returned (.tuple #[]) ∧ w'.cell? ⟨w1.heap.size, 0, none⟩ = some (.int .i64 x0) ∧ Led (PI RR p { T with A := P.remove (P.aft T.A id) x0, sc := T.sc + 1 } (m + 1)) F w w') := fun wq hq ws hs => by
    have K0 := KY.out wq hq ws hs
    subst hs
    refine (KI.out _ _ (KS.out w1 wq F1 HP1.out (((Fr.refl NoF w1).alloc _).trans hq (fun _ q => q.elim))).1).mono ?_
    rintro e w' ⟨he, rfl⟩
    exact ⟨he, K0⟩
  clear KX KI KT KW KN KS KY
  cases b with
  | false =>
    go_wp2_with fail
    go_quiet (fail)
    go_wp2_with fail
    refine (KZ.out _ ((Fr.refl NoF _).drewN _) _ rfl).mono ?_
    rintro e w2 ⟨rfl, u1, u2, u3, u5, u4⟩
    have U4 := Lib.hid u4
    clear u4
    go_wp2_with fail
    refine U4.out.mono ?_
    rintro e w4 ⟨rfl, v1, v2⟩
    have V2 := Lib.hid v2
    clear v2
    go_wp2
    go_returns
    exact ⟨rfl, V2.out⟩
  | true =>
    have HH := Lib.hid (KH.out w1 F1 z HP1.out (hz rfl))
    go_wp2_with fail
    go_quiet ((go_at_call 25; exact qs (HH.out _ _)))
    go_wp2_with fail
    refine (KZ.out _ ((Fr.refl NoF _).drewN _) _ rfl).mono ?_
    rintro e w2 ⟨rfl, u1, u2, u3, u5, u4⟩
    have U4 := Lib.hid u4
    clear u4
    go_wp2_with fail
    refine U4.out.mono ?_
    rintro e w4 ⟨rfl, v1, v2⟩
    have V2 := Lib.hid v2
    clear v2
    go_wp2
    go_returns
    exact ⟨rfl, V2.out⟩
end
end Go.Proofs.YtmpjnphnljakiaaGreatDoor
namespace Go.Proofs.YtmpjnphnljakiaaGreatDoor
open Go.RowKit Go.Maps
set_option linter.unusedVariables false
set_option linter.unusedSectionVars false

/-- The least number below n that is there. -/
def fstB (n : Nat) (I : Nat → Bool) : Option Nat := (List.range n).find? I
theorem fstB_some {n x : Nat} {I : Nat → Bool} (h : fstB n I = some x) : x < n ∧ IsLeast I x := by
  unfold fstB at h
  obtain ⟨h1, l1, l2, h2, h3⟩ := List.find?_eq_some_iff_append.1 h
  have hl : (List.range n).length = n := List.length_range
  have hx : (List.range n)[l1.length]? = some x := by rw [h2]; simp
  have hlt : l1.length < n := by
    rw [← hl, h2]; simp
  rw [List.getElem?_range hlt] at hx
  obtain rfl : l1.length = x := by simpa using hx
  refine ⟨hlt, h1, fun y hy => ?_⟩
  have hy2 : (List.range n)[y]? = some y := List.getElem?_range (by omega)
  rw [h2, List.getElem?_append_left hy] at hy2
  have := h3 y (List.mem_of_getElem? hy2)
  simpa using this
theorem fstB_none {n : Nat} {I : Nat → Bool} (h : fstB n I = none) : ∀ x, x < n → I x = false := by
  unfold fstB at h
  intro x hx
  have := List.find?_eq_none.1 h x (List.mem_range.2 hx)
  simpa using this
theorem fstB_is {n x : Nat} {I : Nat → Bool} (hx : x < n) (h : IsLeast I x) : fstB n I = some x := by
  cases e : fstB n I with
  | none => have := fstB_none e x hx; rw [h.1] at this; cases this
  | some y =>
    obtain ⟨h1, h2⟩ := fstB_some e
    rcases Nat.lt_trichotomy x y with q | q | q
    · have := h2.2 x q; rw [h.1] at this; cases this
    · rw [q]
    · have := h.2 y q; rw [h2.1] at this; cases this
/-- Who goes, what the Replacer is then, how many scans there were. -/
def vicX {τ : Type} (P : Adv τ) (n : Nat) (A : τ) (I : Nat → Bool) (id : Nat) : Nat × τ × Nat :=
  match P.victim A id with
  | none => ((fstB n I).getD 0, P.remove (P.aft A id) ((fstB n I).getD 0), 1)
  | some a => if I a = true then (a, P.aft A id, 0) else ((fstB n I).getD 0, P.remove (P.aft A id) ((fstB n I).getD 0), 1)
section
variable {τ : Type} {P : Adv τ} {RR : World → τ → (Nat → Prop) → Prop} {ok : Nat → τ → (Nat → Nat) → (Nat → Bool) → Prop} {p : PP} (S : RepSys P RR p.pb p.rv p.n ok) {w w' : World} {T : PT τ} {m : Nat} {F : Nat → Prop}
theorem vicX_yes {n : Nat} {A : τ} {I : Nat → Bool} {id a : Nat} (h : P.victim A id = some a) (hI : I a = true) : vicX P n A I id = (a, P.aft A id, 0) := by unfold vicX; rw [h]; simp [hI]
theorem vicX_no {n : Nat} {A : τ} {I : Nat → Bool} {id x : Nat} (h : ∀ a, P.victim A id = some a → I a = false) (hx : fstB n I = some x) : vicX P n A I id = (x, P.remove (P.aft A id) x, 1) := by
  unfold vicX
  rw [hx]
  cases e : P.victim A id with
  | none => rfl
  | some a => simp [h a e]
theorem vic_case (A : τ) (I : Nat → Bool) (id : Nat) : (∃ a, P.victim A id = some a ∧ I a = true) ∨ ∀ a, P.victim A id = some a → I a = false := by
  cases e : P.victim A id with
  | none => exact .inr (fun a h => by cases h)
  | some a =>
    cases h : I a with
    | true => exact .inl ⟨a, rfl, h⟩
    | false => exact .inr (fun b hb => by cases hb; exact h)
include S
theorem disk_write (H : PI RR p T m w F) (hm : m < 80000) {id v : Nat} (hu : id < 4294967296) : Calls Tryz.prog 76 #[.pointer (some ⟨p.db, 0, none⟩), .int .u32 id, .int .u64 v] w fun e w' => e = .returned (.int .i64 (T.D.write id v).1) ∧ Led (PI RR p { T with D := (T.D.write id v).2 } (m + 1)) F w w' :=
  H.disk S (Q := fun e _ => e = .returned (.int .i64 (T.D.write id v).1)) (Nat.le_succ m) (fun FD hd => cd_write hd (by omega) (by unfold isU32; omega) v)
theorem pi_clean_no (H : PI RR p T m w F) {k : Nat} (hk : k < p.n) (hd : (T.f k).dirty = false) : Calls Tryz.prog 57 #[p.ptr, .int .i64 k] w fun e w' => e = .returned (.int .i64 0) ∧ Led (PI RR p T m) F w w' := by
  refine (clean_no H.me hk hd).mono ?_
  rintro e w' ⟨he, rfl⟩
  exact ⟨he, Led.refl H⟩
theorem pi_clean (H : PI RR p T m w F) (hm : m < 80000) {k : Nat} (hk : k < p.n) (hd : (T.f k).dirty = true) : Calls Tryz.prog 57 #[p.ptr, .int .i64 k] w fun e w' => e = .returned (.int .i64 (T.D.write (T.f k).id (T.f k).val).1) ∧
    ∃ w1, Led (PI RR p { T with D := (T.D.write (T.f k).id (T.f k).val).2 } (m + 1)) F w w1 ∧ (¬ (T.D.write (T.f k).id (T.f k).val).1 = 0 → w' = w1) ∧ ((T.D.write (T.f k).id (T.f k).val).1 = 0 → w' = w1.setCell ⟨p.fb, k * 4 + 3, none⟩ (.bool false)) :=
  clean_calls (R := fun w1 => Led (PI RR p { T with D := (T.D.write (T.f k).id (T.f k).val).2 } (m + 1)) F w w1) H.me hk hd (fun w0 f0 => by
    refine (disk_write S (H.fr0 S f0) hm (H.me.bd.2 k).1).mono ?_
    rintro e w' ⟨he, hl⟩
    exact ⟨he, Led.trans (R := fun _ _ => True) (f0.mono (fun _ q => q.elim)) (fun i q => .inl q) hl⟩) (fun w1 ⟨F1, h, _⟩ => h.me)
theorem pi_clean_err (H : PI RR p T m w F) (hm : m < 80000) {k : Nat} (hk : k < p.n) (hd : (T.f k).dirty = true) (he : ¬ (T.D.write (T.f k).id (T.f k).val).1 = 0) : Calls Tryz.prog 57 #[p.ptr, .int .i64 k] w fun e w' => e = .returned (.int .i64 (T.D.write (T.f k).id (T.f k).val).1) ∧
    Led (PI RR p { T with D := (T.D.write (T.f k).id (T.f k).val).2 } (m + 1)) F w w' := by
  refine (pi_clean S H hm hk hd).mono ?_
  rintro e w' ⟨h0, w1, h1, h2, _⟩
  rw [h2 he]
  exact ⟨h0, h1⟩
theorem pi_clean_ok (H : PI RR p T m w F) (hm : m < 80000) {k : Nat} (hk : k < p.n) (hd : (T.f k).dirty = true) (he : (T.D.write (T.f k).id (T.f k).val).1 = 0) : Calls Tryz.prog 57 #[p.ptr, .int .i64 k] w fun e w' => e = .returned (.int .i64 0) ∧
    Led (PI RR p { T with f := upd T.f k { T.f k with dirty := false }, D := (T.D.write (T.f k).id (T.f k).val).2 } (m + 1)) F w w' := by
  refine (pi_clean S H hm hk hd).mono ?_
  rintro e w' ⟨h0, w1, ⟨F1, h1, g1, q1⟩, _, h3⟩
  rw [h3 he]
  rw [he] at h0
  obtain ⟨z1, z2⟩ := h1.me.put1 (m' := m + 1) (j := 3) hk { T.f k with dirty := false } (.bool false) (frV_setd T.f k false) (Nat.le_refl _) (h1.me.bd.2 k)
  exact ⟨h0, Led.trans (R := fun _ _ => True) g1 q1 (h1.set z1 (z2.mono (fun i q => .inr (.inl q))) (Nat.le_refl _) S)⟩
theorem pi_vacate (H : PI RR p T m w F) (hm : m < 80000) {k : Nat} (hk : k < p.n) (hE : T.E k = false) : Calls Tryz.prog 66 #[p.ptr, .int .i64 k] w fun e w' => e = .returned (.tuple #[]) ∧
    Led (PI RR p { T with f := upd T.f k zF, pl := updO T.pl (T.f k).id (some (-1)), E := updB T.E k true, I := updB T.I k false } (m + 1)) F w w' := by
  refine (vacate_calls H.me (by omega) hk hE).mono ?_
  rintro e w' ⟨he, h, g⟩
  exact ⟨he, H.set h g (by omega) S⟩
theorem victim_calls (H : PI RR p T m w F) (hm : m < 80000) {id x0 : Nat} (h1 : 1 ≤ id) (hu : id < 4294967296) {pg : Nat → Nat} {ev : Nat → Bool} (ho : ok m T.A pg ev) (hno : ∀ i, i < p.n → ¬ pg i = id) (hg : ∀ x, T.I x = true ↔ Goer p.n pg ev x) (hx0 : fstB p.n T.I = some x0) : Calls Tryz.prog 63 #[p.ptr, .int .u32 id] w fun e w' => e = .returned (.int .i64 (vicX P p.n T.A T.I id).1) ∧
    Led (PI RR p { T with A := (vicX P p.n T.A T.I id).2.1, sc := T.sc + (vicX P p.n T.A T.I id).2.2 } (m + 1)) F w w' := by
  obtain ⟨h2, h3⟩ := fstB_some hx0
  rcases vic_case (P := P) T.A T.I id with ⟨a, ha, hI⟩ | hv
  · rw [vicX_yes ha hI]
    refine (victim_yes S H hm h1 hu ho hno ⟨x0, (hg x0).1 h3.1⟩ ha hI).mono ?_
    rintro e w' ⟨he, hl⟩
    exact ⟨he, hl.mono (fun F' h => h.more (by omega))⟩
  · rw [vicX_no hv hx0]
    exact victim_no S H hm h1 hu ho hno ((hg x0).1 h3.1) (fun x q => (hg x).1 q) (fun x q => (hg x).2 q) hv h3
theorem vic_goer {A : τ} {I : Nat → Bool} {id x0 : Nat} {pg : Nat → Nat} {ev : Nat → Bool} (hg : ∀ x, I x = true ↔ Goer p.n pg ev x) (hx0 : fstB p.n I = some x0) : Goer p.n pg ev (vicX P p.n A I id).1 := by
  obtain ⟨h2, h3⟩ := fstB_some hx0
  rcases vic_case (P := P) A I id with ⟨a, ha, hI⟩ | hv
  · rw [vicX_yes ha hI]; exact (hg a).1 hI
  · rw [vicX_no hv hx0]; exact (hg x0).1 h3.1
theorem vic_ok {A : τ} {I : Nat → Bool} {id x0 : Nat} {pg : Nat → Nat} {ev : Nat → Bool} (hm : m < 80000) (h1 : 1 ≤ id) (ho : ok m A pg ev) (hno : ∀ i, i < p.n → ¬ pg i = id) (hg : ∀ x, I x = true ↔ Goer p.n pg ev x) (hx0 : fstB p.n I = some x0) :
    ok (m + 2) (vicX P p.n A I id).2.1 (upd pg (vicX P p.n A I id).1 0) (upd ev (vicX P p.n A I id).1 false) := by
  obtain ⟨h2, h3⟩ := fstB_some hx0
  rcases vic_case (P := P) A I id with ⟨a, ha, hI⟩ | hv
  · rw [vicX_yes ha hI]
    exact S.more (S.okYes ho (by omega) h1 hno ha ((hg a).1 hI)) (by omega)
  · rw [vicX_no hv hx0]
    exact S.okRem (S.okNo ho (by omega) h1 hno (fun a ha q => by have := hv a ha; rw [(hg a).2 q] at this; cases this)) (by omega) h2 ((hg x0).1 h3.1).2.1
end
end Go.Proofs.YtmpjnphnljakiaaGreatDoor

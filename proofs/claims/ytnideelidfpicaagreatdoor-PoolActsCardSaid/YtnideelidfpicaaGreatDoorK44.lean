/-
  Each call of a Disk beside the document's: both answers, and what both leave; what a copy leaves.
-/
import Derived.Test.YtnideelidfpicaaGreatDoorK41
import Derived.Test.YtnideelidfpicaaGreatDoorK42
import Derived.Test.YtnideelidfpicaaGreatDoorK43
import Derived.LaidEqlPtr
namespace Go.Proofs.YtnideelidfpicaaGreatDoor
open Go.RowKit Go.Maps
set_option linter.unusedVariables false

theorem gap_ex (L : List (Nat × Nat)) : ∃ k, Gap L k := by
  have H : ∀ n, n ≤ L.length → (∃ k, Gap L k) ∨ ∀ j (hj : j < L.length), j < n → L[j].1 = j + 1 := by
    intro n
    induction n with
    | zero => exact fun _ => .inr (fun j _ q => by omega)
    | succ n ih =>
      intro hn
      rcases ih (by omega) with q | q
      · exact .inl q
      · by_cases e : (L[n]'(by omega)).1 = n + 1
        · refine .inr (fun j hj hjn => ?_)
          by_cases ej : j = n
          · subst ej; exact e
          · exact q j hj (by omega)
        · exact .inl ⟨n, by omega, q, fun _ => e⟩
  rcases H L.length (Nat.le_refl _) with q | q
  · exact q
  · exact ⟨L.length, Nat.le_refl _, fun j hj _ => q j hj hj, fun hk => by omega⟩

section
variable {w0 w w' w1 : World} {db rb m m' c mb nf ob : Nat} {s : DS} {r : RS} {oc : Nat → Value}
/-- A state of the disk behind the first call, one of the document's behind the second one: both calls' answer is v. -/
def Pair (w0 w : World) (db rb : Nat) (r : RS) (m ob : Nat) (oc : Nat → Value) (f g : FuncId) (xs ys : Array Value) (v : Value) (s' : DS) (r' : RS) : Prop :=
  Hid (∀ W, Fr NoF w W → Calls Tryz.prog f xs W fun e w' => e = .returned v ∧ TwoB w0 w' db rb s' r (m + 1) m ob oc) ∧
  Hid (∀ W, TwoB w0 W db rb s' r (m + 1) m ob oc → Calls Tryz.prog g ys W fun e w' => e = .returned v ∧ TwoB w0 w' db rb s' r' (m + 1) (m + 1) ob oc) ∧ DRel s' r' ∧ s'.room = r.room
theorem TwoB.up (h : TwoB w0 w db rb s r m m' ob oc) {k k' : Nat} (h1 : m ≤ k) (h2 : m' ≤ k') : TwoB w0 w db rb s r k k' ob oc := by
  obtain ⟨c, pv, fv, mb, fh, nf, lv, nv, sv, h, hb, g1, g2⟩ := h
  obtain ⟨b1, b2, b3⟩ := h.bd
  obtain ⟨e1, e2, e3, e4, e5⟩ := h.be
  exact ⟨c, pv, fv, mb, fh, nf, lv, nv, sv, ⟨h.d, h.e, h.sep, ⟨by omega, by omega, by omega⟩, ⟨by omega, by omega, by omega, by omega, by omega⟩, h.bl, h.od, h.oe, h.f⟩, hb, g1, g2⟩
theorem DS.read_room (s : DS) (id : Nat) : (s.read id).2.room = s.room := by
  obtain ⟨a1, _⟩ := s.att_2 id false
  unfold DS.read; split <;> exact a1
theorem DS.write_room (s : DS) (id v : Nat) : (s.write id v).2.room = s.room := by
  obtain ⟨a1, _⟩ := s.att_2 id true
  unfold DS.write; split <;> exact a1
theorem DS.fail_room (s : DS) (id : Nat) (b : Bool) (x : Nat) : (s.fail id b x).room = s.room := by unfold DS.fail; split <;> rfl
theorem two_read (h : TwoB w0 w db rb s r m m ob oc) (R : DRel s r) (hm : m < 1000) {id : Nat} (hu : isU32 id) : ∃ x y s' r', Pair w0 w db rb r m ob oc 46 64 #[.pointer (some ⟨db, 0, none⟩), .int .u32 id] #[.pointer (some ⟨rb, 0, none⟩), .int .u32 id] (.tuple #[.int .u64 (x : Nat), .int .i64 (y : Nat)]) s' r' := by
  obtain ⟨e, R'⟩ := R.read id
  refine ⟨(s.read id).1.1, (s.read id).1.2, (s.read id).2, (r.read id).2, fun W f => tw_read_d (h.fr0 f) (by omega) hu, fun W hW => ?_, R', by rw [R.room]; exact s.read_room id⟩
  rw [e]
  exact tw_read_r hW (by omega) id
theorem two_write (h : TwoB w0 w db rb s r m m ob oc) (R : DRel s r) (hm : m < 1000) {id v : Nat} (hu : isU32 id) (hv : isU64 v) : ∃ x s' r', Pair w0 w db rb r m ob oc 93 67 #[.pointer (some ⟨db, 0, none⟩), .int .u32 id, .int .u64 v] #[.pointer (some ⟨rb, 0, none⟩), .int .u32 id, .int .u64 v] (.int .i64 (x : Nat)) s' r' := by
  obtain ⟨e, R'⟩ := R.write id v
  refine ⟨(s.write id v).1, (s.write id v).2, (r.write id v).2, fun W f => tw_write_d (h.fr0 f) (by omega) hu v, fun W hW => ?_, R', by rw [R.room]; exact s.write_room id v⟩
  rw [e]
  exact tw_write_r hW (by omega) id hv
theorem two_free (h : TwoB w0 w db rb s r m m ob oc) (R : DRel s r) {id : Nat} (hu : isU32 id) : ∃ x s' r', Pair w0 w db rb r m ob oc 53 63 #[.pointer (some ⟨db, 0, none⟩), .int .u32 id] #[.pointer (some ⟨rb, 0, none⟩), .int .u32 id] (.int .i64 (x : Nat)) s' r' := by
  have hk : (s.free id).1 = (r.free id).1 ∧ DRel (s.free id).2 (r.free id).2 ∧ (s.free id).2.room = s.room := by
    cases hh : s.has id with
    | false =>
      have e : s.free id = (3, s) := by unfold DS.free; rw [hh]; rfl
      rw [e, R.free_no hh]; exact ⟨rfl, R, rfl⟩
    | true =>
      have e : s.free id = (0, s.gone id) := by unfold DS.free; rw [hh]; rfl
      obtain ⟨e1, e2⟩ := R.free_yes hh
      rw [e, e1]; exact ⟨rfl, e2, rfl⟩
  obtain ⟨e, R', er⟩ := hk
  refine ⟨(s.free id).1, (s.free id).2, (r.free id).2, fun W f => (tw_free_d (h.fr0 f) hu).mono fun e w' ⟨he, hw⟩ => ⟨he, hw.up (by omega) (by omega)⟩, fun W hW => ?_, R', by rw [R.room]; exact er⟩
  rw [e]
  exact (tw_free_r hW id).mono fun e w' ⟨he, hw⟩ => ⟨he, hw.up (by omega) (by omega)⟩
theorem two_fail (h : TwoB w0 w db rb s r m m ob oc) (R : DRel s r) (hm : m < 1000) {id : Nat} (hu : isU32 id) (b : Bool) (t : Int) (ht : isI63 t.toNat) : ∃ s' r', Pair w0 w db rb r m ob oc 39 40 #[.pointer (some ⟨db, 0, none⟩), .int .u32 id, .bool b, .int .i64 t] #[.pointer (some ⟨rb, 0, none⟩), .int .u32 id, .bool b, .int .i64 t] (.tuple #[]) s' r' :=
  ⟨_, _, fun W f => tw_fail_d (h.fr0 f) (by omega) hu b t ht, fun W hW => tw_fail_r hW (by omega) id b t ht, R.fail id b t.toNat, by rw [R.room]; exact s.fail_room id b _⟩
theorem two_stop (h : TwoB w0 w db rb s r m m ob oc) (R : DRel s r) (t : Int) (ht : isI63 t.toNat) : ∃ s' r', Pair w0 w db rb r m ob oc 41 42 #[.pointer (some ⟨db, 0, none⟩), .int .i64 t] #[.pointer (some ⟨rb, 0, none⟩), .int .i64 t] (.tuple #[]) s' r' :=
  ⟨_, _, fun W f => (tw_stop_d (h.fr0 f) t ht).mono fun e w' ⟨he, hw⟩ => ⟨he, hw.up (by omega) (by omega)⟩, fun W hW => (tw_stop_r hW t ht).mono fun e w' ⟨he, hw⟩ => ⟨he, hw.up (by omega) (by omega)⟩, R.stop t.toNat, by rw [R.room]⟩
theorem two_alloc (h : TwoB w0 w db rb s r m m ob oc) (R : DRel s r) (hr : r.room ≤ 65535) : ∃ x y s' r', Pair w0 w db rb r m ob oc 51 61 #[.pointer (some ⟨db, 0, none⟩)] #[.pointer (some ⟨rb, 0, none⟩)] (.tuple #[.int .u32 (x : Nat), .int .i64 (y : Nat)]) s' r' := by
  by_cases hf : r.room ≤ r.L.length
  · exact ⟨0, 2, s, r, fun W f => (tw_full_d (h.fr0 f) R hf).mono fun e w' ⟨he, hw⟩ => ⟨he, hw.up (by omega) (by omega)⟩, fun W hW => (tw_full_r hW hf).mono fun e w' ⟨he, hw⟩ => ⟨he, hw.up (by omega) (by omega)⟩, R, R.room.symm⟩
  · obtain ⟨k, hg⟩ := gap_ex r.L
    refine ⟨k + 1, 0, s.put k, r.ins k, fun W f => ?_, fun W hW => ?_, R.put hg (by omega), R.room.symm⟩
    · refine (tw_alloc_d (h.fr0 f) R (by omega)).mono ?_
      rintro e w' ⟨k', hk, he, hw⟩
      obtain rfl := hk k hg
      exact ⟨he, hw.up (by omega) (by omega)⟩
    · refine (tw_alloc_r hW (by omega) hr).mono ?_
      rintro e w' ⟨k', hk, he, hw⟩
      obtain rfl := hg.same hk
      exact ⟨he, hw.up (by omega) (by omega)⟩

/-! ### What is asked behind each -/
theorem tw_same (h : TwoE w0 w db rb s r m m') (R : DRel s r) : Calls Tryz.prog 11 #[.pointer (some ⟨db, 0, none⟩), .pointer (some ⟨rb, 0, none⟩)] w fun e w' => e = .returned (.bool true) ∧ Fr NoF w w' := by
  obtain ⟨c, pv, fv, mb, fh, nf, lv, nv, sv, h⟩ := h
  exact same_yes h.d h.e R
theorem tw_holds (h : TwoE w0 w db rb s r m m') (R : DRel s r) : ∃ a n c, w.cell? ⟨rb, 1, none⟩ = some (.slice a n c) ∧ rb < w.heap.size ∧ Calls Tryz.prog 12 #[.pointer (some ⟨db, 0, none⟩), .slice a n c] w fun e w' => e = .returned (.bool true) ∧ Fr NoF w w' := by
  obtain ⟨c, pv, fv, mb, fh, nf, lv, nv, sv, h⟩ := h
  have hH := holds_yes h.d h.e.hl h.e.b1 R
  have c1 := h.e.ce 1 (by omega)
  obtain ⟨a, cc, e, _, _⟩ := h.e.hl.shape
  exact ⟨a, _, cc, by rw [c1]; show some lv = _; rw [e], h.e.hd.lt, by rw [← e]; exact hH⟩

/-! ### A copy -/
theorem infoDisk : (Tryz.prog.info? 60).map (fun i => decide (i.size = 0)) = some false := by kernel_rfl
theorem neq_ptr {a b : Nat} {ca cb : Nat → Value} (ha : Blk w a 8 ca) (hb : Blk w b 8 cb) (hne : ¬ a = b) : (binOp .eql 25 (.pointer (some ⟨a, 0, none⟩)) (.pointer (some ⟨b, 0, none⟩))).run Tryz.prog w = .ok (.bool false) w := by
  obtain ⟨c1, t1, h1, _⟩ := ha
  obtain ⟨c2, t2, h2, _⟩ := hb
  have hi := infoDisk
  cases hj : Tryz.prog.info? 60 with
  | none => rw [hj] at hi; cases hi
  | some j =>
    rw [hj] at hi
    exact run_eql_ptr_other w Tryz.underlying25 hj (by simpa using hi) (fun e => hne (by injection e)) h1 h2
theorem tw_copy (h : TwoB w0 w db rb s r m m' ob oc) : Calls Tryz.prog 45 #[.pointer (some ⟨db, 0, none⟩)] w fun e w' => ∃ db' s' nf, e = .returned (.pointer (some ⟨db', 0, none⟩)) ∧ ((binOp .eql 25 (.pointer (some ⟨db', 0, none⟩)) (.pointer (some ⟨db, 0, none⟩))).run Tryz.prog w' = .ok (.bool false) w' ∧ s'.wr = 0) ∧ DN w w' db' s' nf := by
  obtain ⟨c, pv, fv, mb, fh, nf, lv, nv, sv, h, hb, g1, g2⟩ := h
  refine (dk_copy h.d).mono ?_
  rintro e w' ⟨db', pv', fv', mb', he, hd, hb, f⟩
  refine ⟨db', s.copy, nf, he, ⟨neq_ptr hd.hd (h.d.fr0 f).hd (fun q => ?_), rfl⟩, 0, pv', fv', mb', fh, hd, hb, f⟩
  have := hb db' (.inl rfl)
  have := h.d.hd.lt
  omega
theorem cp_write (h : DN w w1 db s nf) {id : Nat} (hu : isU32 id) (v : Nat) (hwr : s.wr = 0) : Calls Tryz.prog 93 #[.pointer (some ⟨db, 0, none⟩), .int .u32 id, .int .u64 v] w1 fun e w' => ∃ x : Nat, e = .returned (.int .i64 x) ∧ ∃ s', DN w w' db s' nf :=
  (dn_write h hu v (by omega)).mono fun e w' ⟨he, hd⟩ => ⟨_, he, _, hd⟩
theorem cp_alloc (h : DN w w1 db s nf) : Calls Tryz.prog 51 #[.pointer (some ⟨db, 0, none⟩)] w1 fun e w' => ∃ x y : Nat, e = .returned (.tuple #[.int .u32 x, .int .i64 y]) ∧ Fr NoF w w' := by
  obtain ⟨c, pv, fv, mb, fh, h, hb, f⟩ := h
  cases nf with
  | zero =>
    by_cases hr : s.np < s.room
    · refine (dk_alloc_new h hr).mono ?_
      rintro e w' ⟨he, _, f2⟩
      exact ⟨_, _, he, f.trans f2 (fun i q => .inr (q.elim (fun q => hb i (.inl q)) (fun q => hb i (.inr (.inr (.inl q))))))⟩
    · refine (dk_alloc_full h hr).mono ?_
      rintro e w' ⟨he, d, rfl⟩
      exact ⟨0, 2, he, f.drewN d⟩
  | succ nf =>
    refine (dk_alloc_pop h).mono ?_
    rintro e w' ⟨he, _, f2⟩
    exact ⟨_, 0, he, f.trans f2 (fun i q => .inr (hb i q))⟩

/-! ### The beginning -/
def rs0 (n : Nat) : RS := ⟨n, [], [], [], 0, 0, false, 0⟩
theorem dr0 (n : Nat) : DRel (dk0 n) (rs0 n) := ⟨rfl, rfl, rfl, rfl, rfl, fun q => (by cases q), fun _ _ _ => rfl, fun _ _ _ => rfl, Nat.zero_le _⟩
theorem tw_first {n : Nat} {pv fv : Value} {mb : Nat} {fh : Nat → Nat} (h : DC w1 db (dk0 n) 0 pv fv mb fh 0) (hb : ∀ i, FD db pv fv mb i → w.heap.size ≤ i) (f : Fr NoF w w1) (f' : Fr NoF w1 w') : TwoE w (w'.alloc (.cells #[.int .i64 n, .slice none 0 0, .slice none 0 0, .slice none 0 0, .int .i64 0, .int .i64 0, .bool false, .int .i64 0] 41)) db w'.heap.size (dk0 n) (rs0 n) 0 0 := by
  have fa : Fr NoF w1 (w'.alloc (.cells #[.int .i64 n, .slice none 0 0, .slice none 0 0, .slice none 0 0, .int .i64 0, .int .i64 0, .bool false, .int .i64 0] 41)) := f'.alloc _
  have hs := f.size
  have hs' := f'.size
  refine ⟨0, pv, fv, mb, fh, 0, .slice none 0 0, .slice none 0 0, .slice none 0 0, h.fr0 fa, ⟨⟨_, _, heap_alloc_new _ _ _ rfl, rfl, fun i hi => ?_⟩, SlC.nil _ 2, SlC.nil _ 2, SlC.nil _ 2, fun i q => (by cases q), fun i q => (by cases q), fun i q => (by cases q), by show (0 : Nat) < _; omega, by show (0 : Nat) < _; omega, by show (0 : Nat) < _; omega, ⟨by show (0 : Nat) < _; omega, by show (0 : Nat) < _; omega⟩, fun p q => (by cases q), fun p q => (by cases q), fun p q => (by cases q)⟩, fun i q k => ?_, ⟨Nat.le_refl _, Nat.le_refl _, Nat.le_refl _⟩, ⟨Nat.le_refl _, Nat.le_refl _, Nat.le_refl _, Nat.le_refl _, by show -((0 : Nat) : Int) ≤ 0; omega⟩, by show isI63 0; unfold isI63; omega, hb, by omega, f.trans fa (fun _ q => q.elim)⟩
  · match i, hi with
    | 0, _ => rfl
    | 1, _ => rfl
    | 2, _ => rfl
    | 3, _ => rfl
    | 4, _ => rfl
    | 5, _ => rfl
    | 6, _ => rfl
    | 7, _ => rfl
  · have := h.lt i q
    rcases k with k | k | k | k
    · omega
    · cases k
    · cases k
    · cases k
end
end Go.Proofs.YtnideelidfpicaaGreatDoor

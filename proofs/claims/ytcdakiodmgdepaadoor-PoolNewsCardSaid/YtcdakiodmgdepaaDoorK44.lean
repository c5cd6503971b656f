/-
  Each call of a Disk beside the document's: both answers, and what both leave; what a copy leaves.
-/
import Derived.Test.YtcdakiodmgdepaaDoorK41
import Derived.Test.YtcdakiodmgdepaaDoorK42
import Derived.Test.YtcdakiodmgdepaaDoorK43
import Derived.LaidEqlPtr
namespace Go.Proofs.YtcdakiodmgdepaaDoor
open Go.RowKit Go.Maps
set_option linter.unusedVariables false

theorem gap_ex (L : List (Nat × Nat)) : ∃ k, Gap L k := by
  have H : ∀ n, n ≤ L.length → (∃ k, Gap L k) ∨ ∀ j (hj : j < L.length), j < n → L[j].1 = j + 1 := by
    intro n
    induction n with
    | zero => exact fun _ => .inr (fun j _ q => by omega)
    | succ n ih =>
      intro hn
      rcases ih (by omega) with q | q
      · exact .inl q
      · by_cases e : (L[n]'(by omega)).1 = n + 1
        · refine .inr (fun j hj hjn => ?_)
          by_cases ej : j = n
          · subst ej; exact e
          · exact q j hj (by omega)
        · exact .inl ⟨n, by omega, q, fun _ => e⟩
  rcases H L.length (Nat.le_refl _) with q | q
  · exact q
  · exact ⟨L.length, Nat.le_refl _, fun j hj _ => q j hj hj, fun hk => by omega⟩

section
variable {w0 w w' w1 : World} {db rb m m' c mb nf ob : Nat} {s : DS} {r : RS} {oc : Nat → Value}
/-- A state of the disk behind the first call, one of the document's behind the second one: both calls' answer is v. -/
def Pair (w0 w : World) (db rb : Nat) (r : RS) (m ob : Nat) (oc : Nat → Value) (f g : FuncId) (xs ys : Array Value) (v : Value) (s' : DS) (r' : RS) : Prop :=
  Hid (∀ W, Fr NoF w W → Calls Tryd.prog f xs W fun e w' => e = .returned v ∧ TwoB w0 w' db rb s' r (m + 1) m ob oc) ∧
  Hid (∀ W, TwoB w0 W db rb s' r (m + 1) m ob oc → Calls Tryd.prog g ys W fun e w' => e = .returned v ∧ TwoB w0 w' db rb s' r' (m + 1) (m + 1) ob oc) ∧ DRel s' r' ∧ s'.room = r.room
theorem TwoB.up (h : TwoB w0 w db rb s r m m' ob oc) {k k' : Nat} (h1 : m ≤ k) (h2 : m' ≤ k') : TwoB w0 w db rb s r k k' ob oc := by
  obtain ⟨c, pv, fv, mb, fh, nf, lv, nv, sv, h, hb, g1, g2⟩ := h
  obtain ⟨b1, b2, b3⟩ := h.bd
  obtain ⟨e1, e2, e3, e4, e5⟩ := h.be
  exact ⟨c, pv, fv, mb, fh, nf, lv, nv, sv, ⟨h.d, h.e, h.sep, ⟨by omega, by omega, by omega⟩, ⟨by omega, by omega, by omega, by omega, by omega⟩, h.bl, h.od, h.oe, h.f⟩, hb, g1, g2⟩
theorem DS.read_room (s : DS) (id : Nat) : (s.read id).2.room = s.room := by
  obtain ⟨a1, _⟩ := s.att_2 id false
  unfold DS.read; split <;> exact a1
theorem DS.write_room (s : DS) (id v : Nat) : (s.write id v).2.room = s.room := by
  obtain ⟨a1, _⟩ := s.att_2 id true
  unfold DS.write; split <;> exact a1
theorem DS.fail_room (s : DS) (id : Nat) (b : Bool) (x : Nat) : (s.fail id b x).room = s.room := by unfold DS.fail; split <;> rfl
/-! ### What is asked behind each -/
/-! ### A copy -/
theorem infoDisk : (Tryd.prog.info? 52).map (fun i => decide (i.size = 0)) = some false := by kernel_rfl
theorem neq_ptr {a b : Nat} {ca cb : Nat → Value} (ha : Blk w a 8 ca) (hb : Blk w b 8 cb) (hne : ¬ a = b) : (binOp .eql 22 (.pointer (some ⟨a, 0, none⟩)) (.pointer (some ⟨b, 0, none⟩))).run Tryd.prog w = .ok (.bool false) w := by
  obtain ⟨c1, t1, h1, _⟩ := ha
  obtain ⟨c2, t2, h2, _⟩ := hb
  have hi := infoDisk
  cases hj : Tryd.prog.info? 52 with
  | none => rw [hj] at hi; cases hi
  | some j =>
    rw [hj] at hi
    exact run_eql_ptr_other w Tryd.underlying22 hj (by simpa using hi) (fun e => hne (by injection e)) h1 h2
theorem cp_write (h : DN w w1 db s nf) {id : Nat} (hu : isU32 id) (v : Nat) (hwr : s.wr = 0) : Calls Tryd.prog 57 #[.pointer (some ⟨db, 0, none⟩), .int .u32 id, .int .u64 v] w1 fun e w' => ∃ x : Nat, e = .returned (.int .i64 x) ∧ ∃ s', DN w w' db s' nf :=
  (dn_write h hu v (by omega)).mono fun e w' ⟨he, hd⟩ => ⟨_, he, _, hd⟩
theorem cp_alloc (h : DN w w1 db s nf) : Calls Tryd.prog 25 #[.pointer (some ⟨db, 0, none⟩)] w1 fun e w' => ∃ x y : Nat, e = .returned (.tuple #[.int .u32 x, .int .i64 y]) ∧ Fr NoF w w' := by
  obtain ⟨c, pv, fv, mb, fh, h, hb, f⟩ := h
  cases nf with
  | zero =>
    by_cases hr : s.np < s.room
    · refine (dk_alloc_new h hr).mono ?_
      rintro e w' ⟨he, _, f2⟩
      exact ⟨_, _, he, f.trans f2 (fun i q => .inr (q.elim (fun q => hb i (.inl q)) (fun q => hb i (.inr (.inr (.inl q))))))⟩
    · refine (dk_alloc_full h hr).mono ?_
      rintro e w' ⟨he, d, rfl⟩
      exact ⟨0, 2, he, f.drewN d⟩
  | succ nf =>
    refine (dk_alloc_pop h).mono ?_
    rintro e w' ⟨he, _, f2⟩
    exact ⟨_, 0, he, f.trans f2 (fun i q => .inr (hb i q))⟩

/-! ### The beginning -/
def rs0 (n : Nat) : RS := ⟨n, [], [], [], 0, 0, false, 0⟩
theorem dr0 (n : Nat) : DRel (dk0 n) (rs0 n) := ⟨rfl, rfl, rfl, rfl, rfl, fun q => (by cases q), fun _ _ _ => rfl, fun _ _ _ => rfl, Nat.zero_le _⟩
end
end Go.Proofs.YtcdakiodmgdepaaDoor

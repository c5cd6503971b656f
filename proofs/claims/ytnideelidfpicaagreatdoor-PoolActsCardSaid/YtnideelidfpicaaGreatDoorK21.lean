/-
  A Disk in memory: its head, the pages, the freed ids, what is to fail. has, Reads, Writes, Stop, Fail, attempt, Read, Write.
-/
import Derived.Test.YtnideelidfpicaaGreatDoorK18
import Derived.Test.YtnideelidfpicaaGreatDoorK20
namespace Go.Proofs.YtnideelidfpicaaGreatDoor
open Go.RowKit Go.Maps
set_option linter.unusedVariables false

structure DS where
  room : Nat
  np : Nat
  pg : Nat → Bool × Nat
  fl : Acc → Nat
  stops : Bool
  left : Nat
  rd : Nat
  wr : Nat
def dH (s : DS) (pv fv : Value) (mb : Nat) : Nat → Value
  | 0 => .int .i64 s.room
  | 1 => pv
  | 2 => fv
  | 3 => .map (some mb)
  | 4 => .bool s.stops
  | 5 => .int .i64 s.left
  | 6 => .int .i64 s.rd
  | 7 => .int .i64 s.wr
  | _ => .int .i64 0
def pgF (pg : Nat → Bool × Nat) (i : Nat) : Value := if i % 2 = 0 then .bool (pg (i / 2)).1 else .int .u64 ((pg (i / 2)).2 : Nat)
theorem pgF_0 (pg : Nat → Bool × Nat) (k : Nat) : pgF pg (k * 2) = .bool (pg k).1 := by
  have h1 : k * 2 % 2 = 0 := by omega
  have h2 : k * 2 / 2 = k := by omega
  simp [pgF, h1, h2]
theorem pgF_1 (pg : Nat → Bool × Nat) (k : Nat) : pgF pg (k * 2 + 1) = .int .u64 ((pg k).2 : Nat) := by
  have h1 : (k * 2 + 1) % 2 = 1 := by omega
  have h2 : (k * 2 + 1) / 2 = k := by omega
  simp [pgF, h1, h2]
theorem pgF_set1 (pg : Nat → Bool × Nat) (k v : Nat) : upd (pgF pg) (k * 2 + 1) (.int .u64 (v : Nat)) = pgF (upd pg k ((pg k).1, v)) := by
  funext j
  by_cases e : j = k * 2 + 1
  · subst e; rw [upd_same, pgF_1, upd_same]
  · rw [upd_other _ _ e]
    unfold pgF
    by_cases e2 : j / 2 = k
    · have : j % 2 = 0 := by omega
      simp [this, e2, upd_same]
    · rw [upd_other _ _ e2]
theorem pgF_set (pg : Nat → Bool × Nat) (k : Nat) (b : Bool) (v : Nat) : upd (upd (pgF pg) (k * 2) (.bool b)) (k * 2 + 1) (.int .u64 (v : Nat)) = pgF (upd pg k (b, v)) := by
  funext j
  by_cases e : j = k * 2 + 1
  · subst e; rw [upd_same, pgF_1, upd_same]
  · rw [upd_other _ _ e]
    by_cases e3 : j = k * 2
    · subst e3; rw [upd_same, pgF_0, upd_same]
    · rw [upd_other _ _ e3]
      unfold pgF
      rw [upd_other]
      omega
/-- A count of failures is a number of 63 bits. -/
def isI63 (x : Nat) : Prop := x < 9223372036854775808
def flM (fl : Acc → Nat) : Acc → Option Int := fun k => if fl k = 0 then none else some (fl k : Int)
structure DC (w : World) (db : Nat) (s : DS) (c : Nat) (pv fv : Value) (mb : Nat) (fh : Nat → Nat) (nf : Nat) : Prop where
  hd : Blk w db 8 (dH s pv fv mb)
  po : SlF w 104 2 pv s.np (pgF s.pg)
  fo : SlF w 43 1 fv nf (uN fh)
  mp : MpK Tryz.prog 111 3 .i64 okA klA w mb c (flM s.fl)
  n1 : ∀ b, pv.ownBlock = some b → ¬ b = db ∧ ¬ b = mb ∧ ¬ fv.ownBlock = some b
  n2 : ∀ b, fv.ownBlock = some b → ¬ b = db ∧ ¬ b = mb
  n3 : ¬ mb = db
  r1 : 1 ≤ s.room ∧ s.room ≤ 65535
  r2 : s.np ≤ s.room
  hp : IsHeap ltN fh nf
  inj : InjF (fun x : Nat => x) fh nf
  nn : nf ≤ s.np
  fm : ∀ x, (∃ k, k < nf ∧ fh k = x) ↔ 1 ≤ x ∧ x ≤ s.np ∧ (s.pg (x - 1)).1 = false
  ct : c < 1000000
  lr : isI63 s.left ∧ s.rd < 1000000000 ∧ s.wr < 1000000000
  fb : ∀ a, isI63 (s.fl a)
/-- All its blocks. -/
def FD (db : Nat) (pv fv : Value) (mb : Nat) : Nat → Prop := fun i => i = db ∨ i = mb ∨ pv.ownBlock = some i ∨ fv.ownBlock = some i
/-- A Disk at block db. -/
def DR (w : World) (db : Nat) (s : DS) (c : Nat) (F : Nat → Prop) : Prop := ∃ pv fv mb fh nf, DC w db s c pv fv mb fh nf ∧ ∀ i, F i ↔ FD db pv fv mb i
def DS.has (s : DS) (id : Nat) : Bool := decide (1 ≤ id ∧ id ≤ s.np) && (s.pg (id - 1)).1

section
variable {w w' : World} {db c mb nf : Nat} {s : DS} {pv fv : Value} {fh : Nat → Nat} {F : Nat → Prop}
theorem DC.fr (h : DC w db s c pv fv mb fh nf) {G : Nat → Prop} (f : Fr G w w') (hG : ∀ i, FD db pv fv mb i → ¬ G i) : DC w' db s c pv fv mb fh nf :=
  ⟨h.hd.fr f (hG _ (.inl rfl)), h.po.fr f (fun b q => hG b (.inr (.inr (.inl q)))), h.fo.fr f (fun b q => hG b (.inr (.inr (.inr q)))), h.mp.fr f (hG _ (.inr (.inl rfl))), h.n1, h.n2, h.n3, h.r1, h.r2, h.hp, h.inj, h.nn, h.fm, h.ct, h.lr, h.fb⟩
theorem DC.fr0 (h : DC w db s c pv fv mb fh nf) (f : Fr NoF w w') : DC w' db s c pv fv mb fh nf := h.fr f (fun _ _ q => q)
theorem DC.lt (h : DC w db s c pv fv mb fh nf) : ∀ i, FD db pv fv mb i → i < w.heap.size := by
  rintro i (rfl | rfl | q | q)
  · exact h.hd.lt
  · exact h.mp.lt
  · exact h.po.lt i q
  · exact h.fo.lt i q
theorem DR.fr (h : DR w db s c F) {G : Nat → Prop} (f : Fr G w w') (hG : ∀ i, F i → ¬ G i) : DR w' db s c F := by
  obtain ⟨pv, fv, mb, fh, nf, h, hF⟩ := h
  exact ⟨pv, fv, mb, fh, nf, h.fr f (fun i q => hG i ((hF i).2 q)), hF⟩
theorem DR.lt (h : DR w db s c F) : ∀ i, F i → i < w.heap.size := by
  obtain ⟨pv, fv, mb, fh, nf, h, hF⟩ := h
  intro i q
  exact h.lt i ((hF i).1 q)
theorem DC.ce (h : DC w db s c pv fv mb fh nf) (i : Nat) (hi : i < 8) : w.cell? ⟨db, i, none⟩ = some (dH s pv fv mb i) := h.hd.cell hi

theorem dk_has (h : DC w db s c pv fv mb fh nf) {id : Nat} (hu : isU32 id) : Calls Tryz.prog 81 #[.pointer (some ⟨db, 0, none⟩), .int .u32 id] w fun e w' => e = .returned (.bool (s.has id)) ∧ w = w' := by
  have c1 : w.cell? ⟨db, 1, none⟩ = some pv := h.ce 1 (by omega)
  have hr := h.r1
  have hr2 := h.r2
  have hcv : IntKind.i64.wrap (id : Int) = (id : Int) := IntWalk.i64_in _ (by unfold isU32 at hu; omega)
  by_cases h1 : 1 ≤ id
  · by_cases h2 : id ≤ s.np
    · obtain ⟨g, cap, rfl, q1, q2, q3, q4, q5⟩ := h.po.at (by omega)
      have cc : w.cell? ⟨g, (id - 1) * 2, none⟩ = some (.bool (s.pg (id - 1)).1) := by rw [q5 _ (by omega), pgF_0]
      have HE : Hid (s.has id = (s.pg (id - 1)).1) := by unfold Hid DS.has; simp [h1, h2]
      rw [HE.out]
      generalize (s.pg (id - 1)).1 = z at *
      unfold maxLen at q2
      obtain ⟨k, rfl⟩ : ∃ k, id = k + 1 := ⟨id - 1, by omega⟩
      rw [show k + 1 - 1 = k from by omega] at cc
      have hcv2 : IntKind.i64.wrap ((k + 1 : Nat) : Int) = ((k + 1 : Nat) : Int) := hcv
      have hks : ((k + 1 : Nat) : Int) - 1 = (k : Int) := by omega
      clear h HE q4 q5 hu hcv
      go_enter Tryz.func81, Tryz.ntmps81
      go_wp2
      go_returns
      exact ⟨by first | rfl | simp, rfl⟩
    · have HE : Hid (s.has id = false) := by unfold Hid DS.has; simp [h2]
      obtain ⟨va, vc, rfl, _, _⟩ := h.po.shape
      rw [HE.out]
      clear h HE hu
      go_enter Tryz.func81, Tryz.ntmps81
      go_wp2
      go_returns
      exact ⟨rfl, rfl⟩
  · have HE : Hid (s.has id = false) := by unfold Hid DS.has; simp [h1]
    rw [HE.out]
    obtain rfl : id = 0 := by omega
    clear h HE hu hcv
    go_enter Tryz.func81, Tryz.ntmps81
    go_wp2
    go_returns
    exact ⟨rfl, rfl⟩
theorem dk_reads (h : DC w db s c pv fv mb fh nf) : Calls Tryz.prog 43 #[.pointer (some ⟨db, 0, none⟩)] w fun e w' => e = .returned (.int .i64 s.rd) ∧ w = w' := by
  have c6 : w.cell? ⟨db, 6, none⟩ = some (.int .i64 s.rd) := h.ce 6 (by omega)
  clear h
  go_enter Tryz.func43, Tryz.ntmps43
  go_wp2
  go_returns
  exact ⟨rfl, rfl⟩
theorem dk_writes (h : DC w db s c pv fv mb fh nf) : Calls Tryz.prog 44 #[.pointer (some ⟨db, 0, none⟩)] w fun e w' => e = .returned (.int .i64 s.wr) ∧ w = w' := by
  have c7 : w.cell? ⟨db, 7, none⟩ = some (.int .i64 s.wr) := h.ce 7 (by omega)
  clear h
  go_enter Tryz.func44, Tryz.ntmps44
  go_wp2
  go_returns
  exact ⟨rfl, rfl⟩

/-- A cell of the head is written. -/
theorem DC.head (h : DC w db s c pv fv mb fh nf) (i : Nat) (u : Value) {s' : DS} (e : upd (dH s pv fv mb) i u = dH s' pv fv mb) (e1 : s'.room = s.room) (e2 : s'.np = s.np) (e3 : s'.pg = s.pg) (e4 : s'.fl = s.fl) (e5 : isI63 s'.left ∧ s'.rd < 1000000000 ∧ s'.wr < 1000000000) : DC (w.setCell ⟨db, i, none⟩ u) db s' c pv fv mb fh nf ∧ Fr (fun k => k = db) w (w.setCell ⟨db, i, none⟩ u) := by
  have f : Fr (fun k => k = db) w (w.setCell ⟨db, i, none⟩ u) := (Fr.refl (fun k => k = db) w).setCell (p := ⟨db, i, none⟩) (.inl rfl) _
  refine ⟨⟨by rw [← e]; exact h.hd.set _ _, by rw [e2, e3]; exact h.po.fr f (fun b q e => (h.n1 b q).1 e), h.fo.fr f (fun b q e => (h.n2 b q).1 e), by rw [e4]; exact h.mp.fr f (fun e => h.n3 e), h.n1, h.n2, h.n3, by rw [e1]; exact h.r1, by rw [e1, e2]; exact h.r2, h.hp, h.inj, by rw [e2]; exact h.nn, by rw [e2, e3]; exact h.fm, h.ct, e5, by rw [e4]; exact h.fb⟩, f⟩
theorem dH_4 (s : DS) (pv fv : Value) (mb : Nat) (b : Bool) : upd (dH s pv fv mb) 4 (.bool b) = dH { s with stops := b } pv fv mb := by
  funext j
  match j with
  | 0 => rfl
  | 1 => rfl
  | 2 => rfl
  | 3 => rfl
  | 4 => rfl
  | 5 => rfl
  | 6 => rfl
  | 7 => rfl
  | j + 8 => simp [upd, dH]
theorem dH_5 (s : DS) (pv fv : Value) (mb : Nat) (b : Nat) : upd (dH s pv fv mb) 5 (.int .i64 b) = dH { s with left := b } pv fv mb := by
  funext j
  match j with
  | 0 => rfl
  | 1 => rfl
  | 2 => rfl
  | 3 => rfl
  | 4 => rfl
  | 5 => rfl
  | 6 => rfl
  | 7 => rfl
  | j + 8 => simp [upd, dH]
theorem dH_6 (s : DS) (pv fv : Value) (mb : Nat) (b : Nat) : upd (dH s pv fv mb) 6 (.int .i64 b) = dH { s with rd := b } pv fv mb := by
  funext j
  match j with
  | 0 => rfl
  | 1 => rfl
  | 2 => rfl
  | 3 => rfl
  | 4 => rfl
  | 5 => rfl
  | 6 => rfl
  | 7 => rfl
  | j + 8 => simp [upd, dH]
theorem dH_7 (s : DS) (pv fv : Value) (mb : Nat) (b : Nat) : upd (dH s pv fv mb) 7 (.int .i64 b) = dH { s with wr := b } pv fv mb := by
  funext j
  match j with
  | 0 => rfl
  | 1 => rfl
  | 2 => rfl
  | 3 => rfl
  | 4 => rfl
  | 5 => rfl
  | 6 => rfl
  | 7 => rfl
  | j + 8 => simp [upd, dH]

/-- Fail, in the state's words: of an id that may come to be. -/
def DS.fail (s : DS) (id : Nat) (b : Bool) (k : Nat) : DS := if 1 ≤ id ∧ id ≤ s.room then { s with fl := updK s.fl (id, b) k } else s
theorem flM_upd (fl : Acc → Nat) (a : Acc) (k : Nat) : flM (updK fl a k) = updK (flM fl) a (if k = 0 then none else some (k : Int)) := by
  funext x
  unfold flM updK
  by_cases e : x = a <;> simp [e]
set_option maxHeartbeats 1000000 in
theorem dk_fail_no (h : DC w db s c pv fv mb fh nf) {id : Nat} (hu : isU32 id) (b : Bool) (t : Int) (hno : ¬ (1 ≤ id ∧ id ≤ s.room)) : Calls Tryz.prog 39 #[.pointer (some ⟨db, 0, none⟩), .int .u32 id, .bool b, .int .i64 t] w fun e w' => e = .returned (.tuple #[]) ∧ w = w' := by
  have c0 : w.cell? ⟨db, 0, none⟩ = some (.int .i64 s.room) := h.ce 0 (by omega)
  have hcv : IntKind.i64.wrap (id : Int) = (id : Int) := IntWalk.i64_in _ (by unfold isU32 at hu; omega)
  by_cases h1 : 1 ≤ id
  · have h2 : s.room < id := by omega
    clear h hu hno
    go_enter Tryz.func39, Tryz.ntmps39
    go_wp2
    go_returns
    exact ⟨rfl, rfl⟩
  · obtain rfl : id = 0 := by omega
    clear h hu hno hcv
    go_enter Tryz.func39, Tryz.ntmps39
    go_wp2
    go_returns
    exact ⟨rfl, rfl⟩
/-- What a change of what is to fail leaves. -/
theorem DC.fails (h : DC w db s c pv fv mb fh nf) {c' : Nat} {fl' : Acc → Nat} (hm : MpK Tryz.prog 111 3 .i64 okA klA w' mb c' (flM fl')) (f : Fr (fun i => i = mb) w w') (hc : c' < 1000000) (hb : ∀ a, isI63 (fl' a)) : DC w' db { s with fl := fl' } c' pv fv mb fh nf :=
  ⟨h.hd.fr f (fun e => h.n3 e.symm), h.po.fr f (fun b q => (h.n1 b q).2.1), h.fo.fr f (fun b q => (h.n2 b q).2), hm, h.n1, h.n2, h.n3, h.r1, h.r2, h.hp, h.inj, h.nn, h.fm, hc, h.lr, hb⟩
set_option maxHeartbeats 1000000 in
theorem dk_fail_some (h : DC w db s c pv fv mb fh nf) {id : Nat} (hu : isU32 id) (b : Bool) {k : Nat} (hk : 1 ≤ k) (hkl : isI63 k) (hin : 1 ≤ id ∧ id ≤ s.room) (hc : s.fl (id, b) = 0 → c + 1 < 1000000) : Calls Tryz.prog 39 #[.pointer (some ⟨db, 0, none⟩), .int .u32 id, .bool b, .int .i64 k] w fun e w' => e = .returned (.tuple #[]) ∧
    (∃ c', c' ≤ c + 1 ∧ (¬ s.fl (id, b) = 0 → c' = c) ∧ DC w' db { s with fl := updK s.fl (id, b) k } c' pv fv mb fh nf) ∧ Fr (fun i => i = mb) w w' := by
  have c0 : w.cell? ⟨db, 0, none⟩ = some (.int .i64 s.room) := h.ce 0 (by omega)
  have c3 : w.cell? ⟨db, 3, none⟩ = some (.map (some mb)) := h.ce 3 (by omega)
  have hcv : IntKind.i64.wrap (id : Int) = (id : Int) := IntWalk.i64_in _ (by unfold isU32 at hu; omega)
  have HM := Lib.hid h.mp
  have HOK : Hid (okA (id, b)) := hu
  have HWF : Hid ((Lit.int .i64 (k : Int)).wf = true) := WalkArith.wf_i64 ⟨by omega, by unfold isI63 at hkl; omega⟩
  have KEY : Hid (∀ w', MpK Tryz.prog 111 3 .i64 okA klA w' mb (if (flM s.fl (id, b)).isSome then c else c + 1) (updK (flM s.fl) (id, b) (some (k : Int))) → Fr (fun i => i = mb) w w' →
      (∃ c', c' ≤ c + 1 ∧ (¬ s.fl (id, b) = 0 → c' = c) ∧ DC w' db { s with fl := updK s.fl (id, b) k } c' pv fv mb fh nf) ∧ Fr (fun i => i = mb) w w') := by
    intro w' hm f
    refine ⟨⟨_, ?_, fun hn => ?_, h.fails (c' := if (flM s.fl (id, b)).isSome then c else c + 1) (by rw [flM_upd, show (if k = 0 then none else some (k : Int)) = some (k : Int) from if_neg (by omega)]; exact hm) f ?_ (fun a => by unfold updK; split; exact hkl; exact h.fb a)⟩, f⟩
    rotate_left 2
    · split
      · exact h.ct
      · rename_i q; exact hc (by unfold flM at q; split at q; assumption; exact (q rfl).elim)
    · split <;> omega
    · rw [if_pos]; unfold flM; rw [if_neg hn]; rfl
  have hct := h.ct
  have h1 := hin.1
  have h2 := hin.2
  have hr := h.r1
  have HKL := Lib.hid hkl
  clear h hu hin hkl
  go_enter Tryz.func39, Tryz.ntmps39
  go_wp2_with (at_mapUpdate; go_must (refine wp_putK MKA HM.out hct rfl _ _ _ rfl (by rfl) (x := (id, b)) (by rfl) (by rfl) HOK.out HWF.out ?_); intro w1 hm1 f1; have K := Lib.hid (KEY.out w1 hm1 f1); clear hm1 f1)
  go_returns
  exact ⟨rfl, K.out⟩
set_option maxHeartbeats 1000000 in
theorem dk_fail_none (h : DC w db s c pv fv mb fh nf) {id : Nat} (hu : isU32 id) (b : Bool) {t : Int} (ht : t < 1) (hin : 1 ≤ id ∧ id ≤ s.room) : Calls Tryz.prog 39 #[.pointer (some ⟨db, 0, none⟩), .int .u32 id, .bool b, .int .i64 t] w fun e w' => e = .returned (.tuple #[]) ∧
    (∃ c', c' ≤ c ∧ DC w' db { s with fl := updK s.fl (id, b) 0 } c' pv fv mb fh nf) ∧ Fr (fun i => i = mb) w w' := by
  have c0 : w.cell? ⟨db, 0, none⟩ = some (.int .i64 s.room) := h.ce 0 (by omega)
  have c3 : w.cell? ⟨db, 3, none⟩ = some (.map (some mb)) := h.ce 3 (by omega)
  have hcv : IntKind.i64.wrap (id : Int) = (id : Int) := IntWalk.i64_in _ (by unfold isU32 at hu; omega)
  have HM := Lib.hid h.mp
  have HOK : Hid (okA (id, b)) := hu
  have KEY : Hid (∀ w', MpK Tryz.prog 111 3 .i64 okA klA w' mb (if (flM s.fl (id, b)).isSome then c - 1 else c) (updK (flM s.fl) (id, b) none) → Fr (fun i => i = mb) w w' →
      (∃ c', c' ≤ c ∧ DC w' db { s with fl := updK s.fl (id, b) 0 } c' pv fv mb fh nf) ∧ Fr (fun i => i = mb) w w') := by
    intro w' hm f
    have := h.ct
    exact ⟨⟨_, by split <;> omega, h.fails (c' := if (flM s.fl (id, b)).isSome then c - 1 else c) (by rw [flM_upd, if_pos rfl]; exact hm) f (by split <;> omega) (fun a => by unfold updK; split; unfold isI63; omega; exact h.fb a)⟩, f⟩
  have h1 := hin.1
  have h2 := hin.2
  have hr := h.r1
  clear h hu hin
  go_enter Tryz.func39, Tryz.ntmps39
  go_wp2_with (at_delete; go_must (refine wp_delK MKA HM.out rfl _ _ rfl (by rfl) (x := (id, b)) (by rfl) HOK.out ?_); intro w1 hm1 f1; have K := Lib.hid (KEY.out w1 hm1 f1); clear hm1 f1)
  go_returns
  exact ⟨rfl, K.out⟩
end
end Go.Proofs.YtnideelidfpicaaGreatDoor

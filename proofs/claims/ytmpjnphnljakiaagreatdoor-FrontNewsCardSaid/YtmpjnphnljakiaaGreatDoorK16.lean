/-
  disk's accesses as keys of a map.
  A Disk in memory: its head, the pages, the freed ids, what is to fail. has, Reads, Writes, Stop, Fail, attempt, Read, Write.
  A Disk in memory: Stop, attempt, Read, Write.
  A Disk in memory: New, Read, Write.
  A Disk in memory: Write, Alloc, Free.
  A Disk in memory: Free; what is not there.
  A Disk in memory: Alloc of a freed id.
  A Disk in memory: Pages.
  A Disk in memory: slices.Clone, Copy.
  A Disk in memory: Copy.
  The document's own Disk: its pages as a list; at.
  The document's own Disk: fails.
-/
import Derived.Test.YtmpjnphnljakiaaGreatDoorK15
import Derived.Test.YtmpjnphnljakiaaGreatDoorK08
import Derived.DeepKeys4
import Derived.Test.YtmpjnphnljakiaaGreatDoorK14
import Derived.Deep.RegionWith
import Derived.Deep.LoopGhost
import Derived.Deep.RegionHeld3
import Derived.Test.YtmpjnphnljakiaaGreatDoorK02
import Derived.Test.YtmpjnphnljakiaaGreatDoorK06
import Derived.WalkArith
namespace Go.Proofs.YtmpjnphnljakiaaGreatDoor
open Go.RowKit Go.Maps
set_option linter.unusedVariables false

def isU32 (x : Nat) : Prop := x < 4294967296
theorem isU32.wf {x : Nat} (h : isU32 x) : (Lit.int .u32 (x : Int)).wf = true := WalkArith.wf_u32 ⟨by omega, by unfold isU32 at h; omega⟩
abbrev Acc := Nat × Bool
def okA (k : Acc) : Prop := isU32 k.1
def kvA (k : Acc) : Value := .agg #[.int .u32 k.1, .bool k.2]
def klA (k : Acc) : Lit := .string (keyBytes [.int .u32 (k.1 : Int), .bool k.2])
theorem laidOutA : laidOutB Tryz.prog = true := by kernel_rfl
theorem lawA : Keyed Tryz.prog 122 := Keyed.of_law (deep_law_laid laidOutA (m := 2) (by omega) (of_decide_eq_true (by kernel_rfl)) (by kernel_rfl) (by kernel_rfl))
theorem cellsU32 : Tryz.prog.cellsOf 44 = 1 := by kernel_rfl
theorem cellsB : Tryz.prog.cellsOf 4 = 1 := by kernel_rfl
theorem cellsAc : Tryz.prog.cellsOf 122 = 2 := by kernel_rfl
theorem litsA (d : Nat) (x : Nat) (b : Bool) (hw : (Lit.int .u32 (x : Int)).wf = true) : Tryz.prog.keyLits (d + 2) 122 [.int .u32 (x : Int), .bool b] = some [.int .u32 (x : Int), .bool b] := by
  have e1 : Tryz.prog.keyLits (d + 1) 44 [.int .u32 (x : Int)] = some [.int .u32 (x : Int)] := by
    unfold Program.keyLits; rw [Tryz.underlying44]; simp [hw]
  have e2 : Tryz.prog.keyLits (d + 1) 4 [.bool b] = some [.bool b] := by
    unfold Program.keyLits; rw [Tryz.underlying4]
  unfold Program.keyLits
  rw [Tryz.underlying122]
  simp [cellsAc, cellsU32, cellsB, e1, e2]
theorem keyA (k : Acc) (h : okA k) : keyOf Tryz.prog 122 (kvA k) = some (klA k) := by
  obtain ⟨x, b⟩ := k
  have hw : (Lit.int .u32 (x : Int)).wf = true := isU32.wf h
  have h1 : Tryz.prog.keyType 122 = true := by kernel_rfl
  have h2 : (Value.agg #[.int .u32 (x : Int), .bool b]).formed Tryz.prog 122 = true := by
    simp [Value.formed, Tryz.underlying122, cellsAc]
  obtain ⟨d, hd⟩ : ∃ d, Tryz.prog.types.size + 1 = d + 2 := ⟨Tryz.prog.types.size - 1, by have : 2 ≤ Tryz.prog.types.size := of_decide_eq_true (by kernel_rfl); omega⟩
  unfold keyOf kvA klA
  rw [Tryz.underlying122]
  simp only [h1, h2, Bool.and_true, if_true, hd]
  show (Tryz.prog.keyLits (d + 2) 122 [.int .u32 (x : Int), .bool b]).map _ = _
  rw [litsA d x b hw]; rfl
theorem injA (x y : Acc) (hx : okA x) (hy : okA y) (e : klA x = klA y) : x = y := by
  have h1 := keyA x hx
  have h2 := keyA y hy
  rw [← e] at h2
  have := lawA.inj h1 h2
  obtain ⟨a, b⟩ := x
  obtain ⟨c, d⟩ := y
  simp [kvA] at this
  have h3 : a = c := by omega
  rw [h3, this.2]
theorem MKA : MK Tryz.prog 47 122 3 .i64 okA kvA klA := ⟨Tryz.underlying47, Tryz.underlying3, fun w => by kernel_rfl, lawA, keyA, injA, fun _ => trivial⟩
end Go.Proofs.YtmpjnphnljakiaaGreatDoor
namespace Go.Proofs.YtmpjnphnljakiaaGreatDoor
open Go.RowKit Go.Maps
set_option linter.unusedVariables false

structure DS where
  room : Nat
  np : Nat
  pg : Nat → Bool × Nat
  fl : Acc → Nat
  stops : Bool
  left : Nat
  rd : Nat
  wr : Nat
def dH (s : DS) (pv fv : Value) (mb : Nat) : Nat → Value
  | 0 => .int .i64 s.room
  | 1 => pv
  | 2 => fv
  | 3 => .map (some mb)
  | 4 => .bool s.stops
  | 5 => .int .i64 s.left
  | 6 => .int .i64 s.rd
  | 7 => .int .i64 s.wr
  | _ => .int .i64 0
def pgF (pg : Nat → Bool × Nat) (i : Nat) : Value := if i % 2 = 0 then .bool (pg (i / 2)).1 else .int .u64 ((pg (i / 2)).2 : Nat)
theorem pgF_0 (pg : Nat → Bool × Nat) (k : Nat) : pgF pg (k * 2) = .bool (pg k).1 := by
  have h1 : k * 2 % 2 = 0 := by omega
  have h2 : k * 2 / 2 = k := by omega
  simp [pgF, h1, h2]
theorem pgF_1 (pg : Nat → Bool × Nat) (k : Nat) : pgF pg (k * 2 + 1) = .int .u64 ((pg k).2 : Nat) := by
  have h1 : (k * 2 + 1) % 2 = 1 := by omega
  have h2 : (k * 2 + 1) / 2 = k := by omega
  simp [pgF, h1, h2]
theorem pgF_set1 (pg : Nat → Bool × Nat) (k v : Nat) : upd (pgF pg) (k * 2 + 1) (.int .u64 (v : Nat)) = pgF (upd pg k ((pg k).1, v)) := by
  funext j
  by_cases e : j = k * 2 + 1
  · subst e; rw [upd_same, pgF_1, upd_same]
  · rw [upd_other _ _ e]
    unfold pgF
    by_cases e2 : j / 2 = k
    · have : j % 2 = 0 := by omega
      simp [this, e2, upd_same]
    · rw [upd_other _ _ e2]
theorem pgF_set (pg : Nat → Bool × Nat) (k : Nat) (b : Bool) (v : Nat) : upd (upd (pgF pg) (k * 2) (.bool b)) (k * 2 + 1) (.int .u64 (v : Nat)) = pgF (upd pg k (b, v)) := by
  funext j
  by_cases e : j = k * 2 + 1
  · subst e; rw [upd_same, pgF_1, upd_same]
  · rw [upd_other _ _ e]
    by_cases e3 : j = k * 2
    · subst e3; rw [upd_same, pgF_0, upd_same]
    · rw [upd_other _ _ e3]
      unfold pgF
      rw [upd_other]
      omega
/-- A count of failures is a number of 63 bits. -/
def isI63 (x : Nat) : Prop := x < 9223372036854775808
def flM (fl : Acc → Nat) : Acc → Option Int := fun k => if fl k = 0 then none else some (fl k : Int)
structure DC (w : World) (db : Nat) (s : DS) (c : Nat) (pv fv : Value) (mb : Nat) (fh : Nat → Nat) (nf : Nat) : Prop where
  hd : Blk w db 8 (dH s pv fv mb)
  po : SlF w 85 2 pv s.np (pgF s.pg)
  fo : SlF w 44 1 fv nf (uN fh)
  mp : MpK Tryz.prog 122 3 .i64 okA klA w mb c (flM s.fl)
  n1 : ∀ b, pv.ownBlock = some b → ¬ b = db ∧ ¬ b = mb ∧ ¬ fv.ownBlock = some b
  n2 : ∀ b, fv.ownBlock = some b → ¬ b = db ∧ ¬ b = mb
  n3 : ¬ mb = db
  r1 : 1 ≤ s.room ∧ s.room ≤ 65535
  r2 : s.np ≤ s.room
  hp : IsHeap ltN fh nf
  inj : InjF (fun x : Nat => x) fh nf
  nn : nf ≤ s.np
  fm : ∀ x, (∃ k, k < nf ∧ fh k = x) ↔ 1 ≤ x ∧ x ≤ s.np ∧ (s.pg (x - 1)).1 = false
  ct : c < 1000000
  lr : isI63 s.left ∧ s.rd < 1000000000 ∧ s.wr < 1000000000
  fb : ∀ a, isI63 (s.fl a)
/-- All its blocks. -/
def FD (db : Nat) (pv fv : Value) (mb : Nat) : Nat → Prop := fun i => i = db ∨ i = mb ∨ pv.ownBlock = some i ∨ fv.ownBlock = some i
/-- A Disk at block db. -/
def DR (w : World) (db : Nat) (s : DS) (c : Nat) (F : Nat → Prop) : Prop := ∃ pv fv mb fh nf, DC w db s c pv fv mb fh nf ∧ ∀ i, F i ↔ FD db pv fv mb i
def DS.has (s : DS) (id : Nat) : Bool := decide (1 ≤ id ∧ id ≤ s.np) && (s.pg (id - 1)).1

section
variable {w w' : World} {db c mb nf : Nat} {s : DS} {pv fv : Value} {fh : Nat → Nat} {F : Nat → Prop}
theorem DC.fr (h : DC w db s c pv fv mb fh nf) {G : Nat → Prop} (f : Fr G w w') (hG : ∀ i, FD db pv fv mb i → ¬ G i) : DC w' db s c pv fv mb fh nf :=
  ⟨h.hd.fr f (hG _ (.inl rfl)), h.po.fr f (fun b q => hG b (.inr (.inr (.inl q)))), h.fo.fr f (fun b q => hG b (.inr (.inr (.inr q)))), h.mp.fr f (hG _ (.inr (.inl rfl))), h.n1, h.n2, h.n3, h.r1, h.r2, h.hp, h.inj, h.nn, h.fm, h.ct, h.lr, h.fb⟩
theorem DC.fr0 (h : DC w db s c pv fv mb fh nf) (f : Fr NoF w w') : DC w' db s c pv fv mb fh nf := h.fr f (fun _ _ q => q)
theorem DC.lt (h : DC w db s c pv fv mb fh nf) : ∀ i, FD db pv fv mb i → i < w.heap.size := by
  rintro i (rfl | rfl | q | q)
  · exact h.hd.lt
  · exact h.mp.lt
  · exact h.po.lt i q
  · exact h.fo.lt i q
theorem DR.fr (h : DR w db s c F) {G : Nat → Prop} (f : Fr G w w') (hG : ∀ i, F i → ¬ G i) : DR w' db s c F := by
  obtain ⟨pv, fv, mb, fh, nf, h, hF⟩ := h
  exact ⟨pv, fv, mb, fh, nf, h.fr f (fun i q => hG i ((hF i).2 q)), hF⟩
theorem DR.lt (h : DR w db s c F) : ∀ i, F i → i < w.heap.size := by
  obtain ⟨pv, fv, mb, fh, nf, h, hF⟩ := h
  intro i q
  exact h.lt i ((hF i).1 q)
theorem DC.ce (h : DC w db s c pv fv mb fh nf) (i : Nat) (hi : i < 8) : w.cell? ⟨db, i, none⟩ = some (dH s pv fv mb i) := h.hd.cell hi

theorem dk_has (h : DC w db s c pv fv mb fh nf) {id : Nat} (hu : isU32 id) : Calls Tryz.prog 67 #[.pointer (some ⟨db, 0, none⟩), .int .u32 id] w fun e w' => e = .returned (.bool (s.has id)) ∧ w = w' := by
  have c1 : w.cell? ⟨db, 1, none⟩ = some pv := h.ce 1 (by omega)
  have hr := h.r1
  have hr2 := h.r2
  have hcv : IntKind.i64.wrap (id : Int) = (id : Int) := IntWalk.i64_in _ (by unfold isU32 at hu; omega)
  by_cases h1 : 1 ≤ id
  · by_cases h2 : id ≤ s.np
    · obtain ⟨g, cap, rfl, q1, q2, q3, q4, q5⟩ := h.po.at (by omega)
      have cc : w.cell? ⟨g, (id - 1) * 2, none⟩ = some (.bool (s.pg (id - 1)).1) := by rw [q5 _ (by omega), pgF_0]
      have HE : Hid (s.has id = (s.pg (id - 1)).1) := by unfold Hid DS.has; simp [h1, h2]
      rw [HE.out]
      generalize (s.pg (id - 1)).1 = z at *
      unfold maxLen at q2
      obtain ⟨k, rfl⟩ : ∃ k, id = k + 1 := ⟨id - 1, by omega⟩
      rw [show k + 1 - 1 = k from by omega] at cc
      have hcv2 : IntKind.i64.wrap ((k + 1 : Nat) : Int) = ((k + 1 : Nat) : Int) := hcv
      have hks : ((k + 1 : Nat) : Int) - 1 = (k : Int) := by omega
      clear h HE q4 q5 hu hcv
      go_enter Tryz.func67, Tryz.ntmps67
      go_wp2
      go_returns
      exact ⟨by first | rfl | simp, rfl⟩
    · have HE : Hid (s.has id = false) := by unfold Hid DS.has; simp [h2]
      obtain ⟨va, vc, rfl, _, _⟩ := h.po.shape
      rw [HE.out]
      clear h HE hu
      go_enter Tryz.func67, Tryz.ntmps67
      go_wp2
      go_returns
      exact ⟨rfl, rfl⟩
  · have HE : Hid (s.has id = false) := by unfold Hid DS.has; simp [h1]
    rw [HE.out]
    obtain rfl : id = 0 := by omega
    clear h HE hu hcv
    go_enter Tryz.func67, Tryz.ntmps67
    go_wp2
    go_returns
    exact ⟨rfl, rfl⟩
/-- A cell of the head is written. -/
theorem DC.head (h : DC w db s c pv fv mb fh nf) (i : Nat) (u : Value) {s' : DS} (e : upd (dH s pv fv mb) i u = dH s' pv fv mb) (e1 : s'.room = s.room) (e2 : s'.np = s.np) (e3 : s'.pg = s.pg) (e4 : s'.fl = s.fl) (e5 : isI63 s'.left ∧ s'.rd < 1000000000 ∧ s'.wr < 1000000000) : DC (w.setCell ⟨db, i, none⟩ u) db s' c pv fv mb fh nf ∧ Fr (fun k => k = db) w (w.setCell ⟨db, i, none⟩ u) := by
  have f : Fr (fun k => k = db) w (w.setCell ⟨db, i, none⟩ u) := (Fr.refl (fun k => k = db) w).setCell (p := ⟨db, i, none⟩) (.inl rfl) _
  refine ⟨⟨by rw [← e]; exact h.hd.set _ _, by rw [e2, e3]; exact h.po.fr f (fun b q e => (h.n1 b q).1 e), h.fo.fr f (fun b q e => (h.n2 b q).1 e), by rw [e4]; exact h.mp.fr f (fun e => h.n3 e), h.n1, h.n2, h.n3, by rw [e1]; exact h.r1, by rw [e1, e2]; exact h.r2, h.hp, h.inj, by rw [e2]; exact h.nn, by rw [e2, e3]; exact h.fm, h.ct, e5, by rw [e4]; exact h.fb⟩, f⟩
theorem dH_4 (s : DS) (pv fv : Value) (mb : Nat) (b : Bool) : upd (dH s pv fv mb) 4 (.bool b) = dH { s with stops := b } pv fv mb := by
  funext j
  match j with
  | 0 => rfl
  | 1 => rfl
  | 2 => rfl
  | 3 => rfl
  | 4 => rfl
  | 5 => rfl
  | 6 => rfl
  | 7 => rfl
  | j + 8 => simp [upd, dH]
theorem dH_5 (s : DS) (pv fv : Value) (mb : Nat) (b : Nat) : upd (dH s pv fv mb) 5 (.int .i64 b) = dH { s with left := b } pv fv mb := by
  funext j
  match j with
  | 0 => rfl
  | 1 => rfl
  | 2 => rfl
  | 3 => rfl
  | 4 => rfl
  | 5 => rfl
  | 6 => rfl
  | 7 => rfl
  | j + 8 => simp [upd, dH]
theorem dH_6 (s : DS) (pv fv : Value) (mb : Nat) (b : Nat) : upd (dH s pv fv mb) 6 (.int .i64 b) = dH { s with rd := b } pv fv mb := by
  funext j
  match j with
  | 0 => rfl
  | 1 => rfl
  | 2 => rfl
  | 3 => rfl
  | 4 => rfl
  | 5 => rfl
  | 6 => rfl
  | 7 => rfl
  | j + 8 => simp [upd, dH]
theorem dH_7 (s : DS) (pv fv : Value) (mb : Nat) (b : Nat) : upd (dH s pv fv mb) 7 (.int .i64 b) = dH { s with wr := b } pv fv mb := by
  funext j
  match j with
  | 0 => rfl
  | 1 => rfl
  | 2 => rfl
  | 3 => rfl
  | 4 => rfl
  | 5 => rfl
  | 6 => rfl
  | 7 => rfl
  | j + 8 => simp [upd, dH]

/-- Fail, in the state's words: of an id that may come to be. -/
def DS.fail (s : DS) (id : Nat) (b : Bool) (k : Nat) : DS := if 1 ≤ id ∧ id ≤ s.room then { s with fl := updK s.fl (id, b) k } else s
theorem flM_upd (fl : Acc → Nat) (a : Acc) (k : Nat) : flM (updK fl a k) = updK (flM fl) a (if k = 0 then none else some (k : Int)) := by
  funext x
  unfold flM updK
  by_cases e : x = a <;> simp [e]
set_option maxHeartbeats 1000000 in
theorem dk_fail_no (h : DC w db s c pv fv mb fh nf) {id : Nat} (hu : isU32 id) (b : Bool) (t : Int) (hno : ¬ (1 ≤ id ∧ id ≤ s.room)) : Calls Tryz.prog 85 #[.pointer (some ⟨db, 0, none⟩), .int .u32 id, .bool b, .int .i64 t] w fun e w' => e = .returned (.tuple #[]) ∧ w = w' := by
  have c0 : w.cell? ⟨db, 0, none⟩ = some (.int .i64 s.room) := h.ce 0 (by omega)
  have hcv : IntKind.i64.wrap (id : Int) = (id : Int) := IntWalk.i64_in _ (by unfold isU32 at hu; omega)
  by_cases h1 : 1 ≤ id
  · have h2 : s.room < id := by omega
    clear h hu hno
    go_enter Tryz.func85, Tryz.ntmps85
    go_wp2
    go_returns
    exact ⟨rfl, rfl⟩
  · obtain rfl : id = 0 := by omega
    clear h hu hno hcv
    go_enter Tryz.func85, Tryz.ntmps85
    go_wp2
    go_returns
    exact ⟨rfl, rfl⟩
/-- What a change of what is to fail leaves. -/
theorem DC.fails (h : DC w db s c pv fv mb fh nf) {c' : Nat} {fl' : Acc → Nat} (hm : MpK Tryz.prog 122 3 .i64 okA klA w' mb c' (flM fl')) (f : Fr (fun i => i = mb) w w') (hc : c' < 1000000) (hb : ∀ a, isI63 (fl' a)) : DC w' db { s with fl := fl' } c' pv fv mb fh nf :=
  ⟨h.hd.fr f (fun e => h.n3 e.symm), h.po.fr f (fun b q => (h.n1 b q).2.1), h.fo.fr f (fun b q => (h.n2 b q).2), hm, h.n1, h.n2, h.n3, h.r1, h.r2, h.hp, h.inj, h.nn, h.fm, hc, h.lr, hb⟩
set_option maxHeartbeats 1000000 in
theorem dk_fail_some (h : DC w db s c pv fv mb fh nf) {id : Nat} (hu : isU32 id) (b : Bool) {k : Nat} (hk : 1 ≤ k) (hkl : isI63 k) (hin : 1 ≤ id ∧ id ≤ s.room) (hc : s.fl (id, b) = 0 → c + 1 < 1000000) : Calls Tryz.prog 85 #[.pointer (some ⟨db, 0, none⟩), .int .u32 id, .bool b, .int .i64 k] w fun e w' => e = .returned (.tuple #[]) ∧
    (∃ c', c' ≤ c + 1 ∧ (¬ s.fl (id, b) = 0 → c' = c) ∧ DC w' db { s with fl := updK s.fl (id, b) k } c' pv fv mb fh nf) ∧ Fr (fun i => i = mb) w w' := by
  have c0 : w.cell? ⟨db, 0, none⟩ = some (.int .i64 s.room) := h.ce 0 (by omega)
  have c3 : w.cell? ⟨db, 3, none⟩ = some (.map (some mb)) := h.ce 3 (by omega)
  have hcv : IntKind.i64.wrap (id : Int) = (id : Int) := IntWalk.i64_in _ (by unfold isU32 at hu; omega)
  have HM := Lib.hid h.mp
  have HOK : Hid (okA (id, b)) := hu
  have HWF : Hid ((Lit.int .i64 (k : Int)).wf = true) := WalkArith.wf_i64 ⟨by omega, by unfold isI63 at hkl; omega⟩
  have KEY : Hid (∀ w', MpK Tryz.prog 122 3 .i64 okA klA w' mb (if (flM s.fl (id, b)).isSome then c else c + 1) (updK (flM s.fl) (id, b) (some (k : Int))) → Fr (fun i => i = mb) w w' →
      (∃ c', c' ≤ c + 1 ∧ (¬ s.fl (id, b) = 0 → c' = c) ∧ DC w' db { s with fl := updK s.fl (id, b) k } c' pv fv mb fh nf) ∧ Fr (fun i => i = mb) w w') := by
    intro w' hm f
    refine ⟨⟨_, ?_, fun hn => ?_, h.fails (c' := if (flM s.fl (id, b)).isSome then c else c + 1) (by rw [flM_upd, show (if k = 0 then none else some (k : Int)) = some (k : Int) from if_neg (by omega)]; exact hm) f ?_ (fun a => by unfold updK; split; exact hkl; exact h.fb a)⟩, f⟩
    rotate_left 2
    · split
      · exact h.ct
      · rename_i q; exact hc (by unfold flM at q; split at q; assumption; exact (q rfl).elim)
    · split <;> omega
    · rw [if_pos]; unfold flM; rw [if_neg hn]; rfl
  have hct := h.ct
  have h1 := hin.1
  have h2 := hin.2
  have hr := h.r1
  have HKL := Lib.hid hkl
  clear h hu hin hkl
  go_enter Tryz.func85, Tryz.ntmps85
  go_wp2_with (at_mapUpdate; go_must (refine wp_putK MKA HM.out hct rfl _ _ _ rfl (by rfl) (x := (id, b)) (by rfl) (by rfl) HOK.out HWF.out ?_); intro w1 hm1 f1; have K := Lib.hid (KEY.out w1 hm1 f1); clear hm1 f1)
  go_returns
  exact ⟨rfl, K.out⟩
set_option maxHeartbeats 1000000 in
theorem dk_fail_none (h : DC w db s c pv fv mb fh nf) {id : Nat} (hu : isU32 id) (b : Bool) {t : Int} (ht : t < 1) (hin : 1 ≤ id ∧ id ≤ s.room) : Calls Tryz.prog 85 #[.pointer (some ⟨db, 0, none⟩), .int .u32 id, .bool b, .int .i64 t] w fun e w' => e = .returned (.tuple #[]) ∧
    (∃ c', c' ≤ c ∧ DC w' db { s with fl := updK s.fl (id, b) 0 } c' pv fv mb fh nf) ∧ Fr (fun i => i = mb) w w' := by
  have c0 : w.cell? ⟨db, 0, none⟩ = some (.int .i64 s.room) := h.ce 0 (by omega)
  have c3 : w.cell? ⟨db, 3, none⟩ = some (.map (some mb)) := h.ce 3 (by omega)
  have hcv : IntKind.i64.wrap (id : Int) = (id : Int) := IntWalk.i64_in _ (by unfold isU32 at hu; omega)
  have HM := Lib.hid h.mp
  have HOK : Hid (okA (id, b)) := hu
  have KEY : Hid (∀ w', MpK Tryz.prog 122 3 .i64 okA klA w' mb (if (flM s.fl (id, b)).isSome then c - 1 else c) (updK (flM s.fl) (id, b) none) → Fr (fun i => i = mb) w w' →
      (∃ c', c' ≤ c ∧ DC w' db { s with fl := updK s.fl (id, b) 0 } c' pv fv mb fh nf) ∧ Fr (fun i => i = mb) w w') := by
    intro w' hm f
    have := h.ct
    exact ⟨⟨_, by split <;> omega, h.fails (c' := if (flM s.fl (id, b)).isSome then c - 1 else c) (by rw [flM_upd, if_pos rfl]; exact hm) f (by split <;> omega) (fun a => by unfold updK; split; unfold isI63; omega; exact h.fb a)⟩, f⟩
  have h1 := hin.1
  have h2 := hin.2
  have hr := h.r1
  clear h hu hin
  go_enter Tryz.func85, Tryz.ntmps85
  go_wp2_with (at_delete; go_must (refine wp_delK MKA HM.out rfl _ _ rfl (by rfl) (x := (id, b)) (by rfl) HOK.out ?_); intro w1 hm1 f1; have K := Lib.hid (KEY.out w1 hm1 f1); clear hm1 f1)
  go_returns
  exact ⟨rfl, K.out⟩
end
end Go.Proofs.YtmpjnphnljakiaaGreatDoor
namespace Go.Proofs.YtmpjnphnljakiaaGreatDoor
open Go.RowKit Go.Maps
set_option linter.unusedVariables false

/-- An access, as it is answered: the error, and the state behind it. -/
def DS.att (s : DS) (id : Nat) (b : Bool) : Nat × DS :=
  if s.has id then
    if s.stops ∧ s.left = 0 then (7, s)
    else if ¬ s.fl (id, b) = 0 then (7, { s with fl := updK s.fl (id, b) (s.fl (id, b) - 1) })
    else (0, if s.stops then { s with left := s.left - 1 } else s)
  else (3, s)
section
variable {w w' : World} {db c mb nf : Nat} {s : DS} {pv fv : Value} {fh : Nat → Nat} {F : Nat → Prop}
set_option maxHeartbeats 4000000 in
theorem dk_attempt (h : DC w db s c pv fv mb fh nf) {id : Nat} (hu : isU32 id) (b : Bool) : Calls Tryz.prog 73 #[.pointer (some ⟨db, 0, none⟩), .agg #[.int .u32 id, .bool b]] w fun e w' => e = .returned (.int .i64 (s.att id b).1) ∧
    (∃ c', c' ≤ c ∧ DC w' db (s.att id b).2 c' pv fv mb fh nf) ∧ Fr (fun i => i = db ∨ i = mb) w w' := by
  have c4 : w.cell? ⟨db, 4, none⟩ = some (.bool s.stops) := h.ce 4 (by omega)
  have c5 : w.cell? ⟨db, 5, none⟩ = some (.int .i64 s.left) := h.ce 5 (by omega)
  have c3 : w.cell? ⟨db, 3, none⟩ = some (.map (some mb)) := h.ce 3 (by omega)
  have lb := h.hd.lt
  have f5 := h.hd.frozen 5
  have hlr := h.lr.1
  have HA : Hid (∀ W, Fr NoF w W → Calls Tryz.prog 67 #[.pointer (some ⟨db, 0, none⟩), .int .u32 id] W fun e w' => e = .returned (.bool (s.has id)) ∧ W = w') := fun W f => dk_has (h.fr0 f) hu
  have fA : Fr NoF w (w.alloc (.cells #[.int .u32 id, .bool b] 122)) := (Fr.refl _ _).alloc _
  cases hh : s.has id with
  | false =>
    have HE : Hid (s.att id b = (3, s)) := by unfold Hid DS.att; rw [hh]; rfl
    rw [HE.out]
    have HA1 := HA.out _ fA
    rw [hh] at HA1
    have H1 := Lib.hid HA1
    have HH := Lib.hid h
    clear HA HA1 h hh hu
    go_enter Tryz.func73, Tryz.ntmps73
    go_wp2_with fail
    refine H1.out.mono ?_
    rintro e w' ⟨rfl, rfl⟩
    go_wp2
    go_returns
    exact ⟨rfl, ⟨c, Nat.le_refl _, HH.out.fr0 ((Fr.refl _ _).alloc _)⟩, (Fr.refl _ _).alloc _⟩
  | true =>
    have HA1 := HA.out _ fA
    rw [hh] at HA1
    have H1 := Lib.hid HA1
    have hir : 1 ≤ id ∧ id ≤ s.room := by
      have hr2 := h.r2
      unfold DS.has at hh
      simp at hh
      omega
    by_cases hst : s.stops = true ∧ s.left = 0
    · have HE : Hid (s.att id b = (7, s)) := by unfold Hid DS.att; rw [hh]; simp [hst.1, hst.2]
      rw [HE.out]
      rw [hst.1] at c4
      rw [hst.2] at c5
      have HH := Lib.hid h
      clear HA HA1 h hh hu hst
      go_enter Tryz.func73, Tryz.ntmps73
      go_wp2_with fail
      refine H1.out.mono ?_
      rintro e w' ⟨rfl, rfl⟩
      go_wp2
      go_returns
      exact ⟨rfl, ⟨c, Nat.le_refl _, HH.out.fr0 ((Fr.refl _ _).alloc _)⟩, (Fr.refl _ _).alloc _⟩
    · have HH := Lib.hid h
      have hfb := h.fb (id, b)
      have HL : ∀ d, (Instr.lookup 47 (.map (some mb)) (.agg #[.int .u32 id, .bool b]) false).run Tryz.prog ((w.alloc (.cells #[.int .u32 id, .bool b] 122)).drewN d) = .ok (.int .i64 (s.fl (id, b) : Nat)) ((w.alloc (.cells #[.int .u32 id, .bool b] 122)).drewN d) := by
        intro d
        have := (((h.fr0 fA).fr0 ((Fr.refl NoF _).drewN d)).mp).look_run MKA (x := (id, b)) hu
        have e : ((flM s.fl (id, b)).getD 0) = ((s.fl (id, b) : Nat) : Int) := by
          unfold flM; split
          · rename_i q; rw [q]; rfl
          · rfl
        rw [e] at this; exact this
      have HF : Hid (∀ d, ∀ z : Int, 1 ≤ s.fl (id, b) → z = (s.fl (id, b) : Int) - 1 → Calls Tryz.prog 85 #[.pointer (some ⟨db, 0, none⟩), .int .u32 id, .bool b, .int .i64 z] ((w.alloc (.cells #[.int .u32 id, .bool b] 122)).drewN d) fun e w' => e = .returned (.tuple #[]) ∧ (∃ c', c' ≤ c ∧ DC w' db { s with fl := updK s.fl (id, b) (s.fl (id, b) - 1) } c' pv fv mb fh nf) ∧ Fr (fun i => i = db ∨ i = mb) w w') := by
        intro d z hv hz
        have fD : Fr NoF w ((w.alloc (.cells #[.int .u32 id, .bool b] 122)).drewN d) := fA.drewN d
        have hct := h.ct
        by_cases h1 : s.fl (id, b) = 1
        · have e0 : s.fl (id, b) - 1 = 0 := by omega
          rw [e0]
          exact (dk_fail_none (h.fr0 fD) hu b (by omega) hir).mono fun e w' ⟨he, q1, q4⟩ => ⟨he, q1, (fD.mono (fun _ q => q.elim)).trans q4 (fun i q => .inl (.inr q))⟩
        · have hz2 : z = ((s.fl (id, b) - 1 : Nat) : Int) := by omega
          rw [hz2]
          exact (dk_fail_some (h.fr0 fD) hu b (k := s.fl (id, b) - 1) (by omega) (by unfold isI63 at *; omega) hir (fun q => by omega)).mono fun e w' ⟨he, ⟨c', q1, q2, q3⟩, q4⟩ => ⟨he, ⟨c', Nat.le_of_eq (q2 (by omega)), q3⟩, (fD.mono (fun _ q => q.elim)).trans q4 (fun i q => .inl (.inr q))⟩
      have HE : Hid (s.att id b = if ¬ s.fl (id, b) = 0 then (7, { s with fl := updK s.fl (id, b) (s.fl (id, b) - 1) }) else (0, if s.stops then { s with left := s.left - 1 } else s)) := by
        unfold Hid DS.att; rw [hh, if_pos rfl, if_neg hst]
      have HW : Hid (∀ d, ∀ z : Int, 1 ≤ s.left → z = (s.left : Int) - 1 → DC (((w.alloc (.cells #[.int .u32 id, .bool b] 122)).drewN d).setCell ⟨db, 5, none⟩ (.int .i64 z)) db { s with left := s.left - 1 } c pv fv mb fh nf ∧ Fr (fun i => i = db ∨ i = mb) w (((w.alloc (.cells #[.int .u32 id, .bool b] 122)).drewN d).setCell ⟨db, 5, none⟩ (.int .i64 z))) := by
        intro d z q1 q2
        obtain rfl : z = ((s.left - 1 : Nat) : Int) := by omega
        have fD : Fr NoF w ((w.alloc (.cells #[.int .u32 id, .bool b] 122)).drewN d) := fA.drewN d
        obtain ⟨h1, f1⟩ := (h.fr0 fD).head 5 (.int .i64 (s.left - 1 : Nat)) (dH_5 _ pv fv mb (s.left - 1)) rfl rfl rfl rfl ⟨by have := h.lr.1; show isI63 (s.left - 1); unfold isI63 at *; omega, h.lr.2⟩
        exact ⟨h1, (fD.mono (fun _ q => q.elim)).trans f1 (fun i q => .inl (.inl q))⟩
      clear HA HA1 h hh hu
      cases hs1 : s.stops with
      | false =>
        have HST := Lib.hid hs1
        rw [hs1] at c4
        clear hst HW hlr
        obtain hv | hv : s.fl (id, b) = 0 ∨ 1 ≤ s.fl (id, b) := by omega
        · have HE2 : Hid (s.att id b = (0, s)) := by unfold Hid; rw [HE.out, if_neg (by omega), hs1, if_neg (by simp)]
          rw [HE2.out]
          rw [hv] at HL
          clear hv hfb HE HE2 HF
          go_enter Tryz.func73, Tryz.ntmps73
          go_wp2_with fail
          refine H1.out.mono ?_
          rintro e w' ⟨rfl, rfl⟩
          go_wp2
          go_quiet (fail)
          go_wp2
          go_returns
          exact ⟨rfl, ⟨c, Nat.le_refl _, (HH.out.fr0 fA).fr0 ((Fr.refl _ _).drewN _)⟩, (fA.mono (fun _ q => q.elim)).drewN _⟩
        · have HV := Lib.hid hv
          have HFV := Lib.hid fun d z => HF.out d z hv
          have HE2 : Hid (s.att id b = (7, { s with fl := updK s.fl (id, b) (s.fl (id, b) - 1) })) := by unfold Hid; rw [HE.out, if_pos (by omega)]
          rw [HE2.out]
          clear HE HE2 HF HV
          generalize hq : s.fl (id, b) = v at HL hv hfb HFV ⊢
          have hv1 : 1 ≤ (v : Int) := by omega
          have hvw : IntKind.i64.wrap ((v : Int) - 1) = (v : Int) - 1 := IntWalk.i64_in _ (by unfold isI63 at hfb; omega)
          clear hv hfb hq
          go_enter Tryz.func73, Tryz.ntmps73
          go_wp2_with fail
          refine H1.out.mono ?_
          rintro e w' ⟨rfl, rfl⟩
          go_wp2
          go_quiet (fail)
          go_wp2_with fail
          refine (HFV.out _ _ (by first | rfl | omega)).mono ?_
          rintro e w2 ⟨rfl, h2⟩
          have H2 := Lib.hid h2
          clear h2
          go_wp2
          go_returns
          exact ⟨rfl, H2.out⟩
      | true =>
        have HST := Lib.hid hs1
        have hl0 : ¬ s.left = 0 := fun q => hst ⟨hs1, q⟩
        rw [hs1] at c4
        have hlb : ((s.left : Int) == 0) = false := by simp; omega
        have hl1 : 1 ≤ (s.left : Int) := by omega
        have hlw : IntKind.i64.wrap ((s.left : Int) - 1) = (s.left : Int) - 1 := IntWalk.i64_in _ (by unfold isI63 at hlr; omega)
        clear hlr
        clear hst
        obtain hv | hv : s.fl (id, b) = 0 ∨ 1 ≤ s.fl (id, b) := by omega
        · have HE2 : Hid (s.att id b = (0, { s with left := s.left - 1 })) := by unfold Hid; rw [HE.out, if_neg (by omega), hs1, if_pos rfl]
          rw [HE2.out]
          have HWL := Lib.hid fun d z => HW.out d z (by omega)
          have HLE := Lib.hid (rfl : s.left - 1 = s.left - 1)
          rw [hv] at HL
          clear hv hfb HE HE2 HF HW
          go_enter Tryz.func73, Tryz.ntmps73
          go_wp2_with fail
          refine H1.out.mono ?_
          rintro e w' ⟨rfl, rfl⟩
          go_wp2
          go_quiet (fail)
          go_wp2
          go_returns
          refine ⟨rfl, ⟨c, Nat.le_refl _, ?_⟩, ?_⟩
          · exact (HWL.out _ _ (by first | rfl | omega)).1
          · exact (HWL.out _ _ (by first | rfl | omega)).2
        · have HV := Lib.hid hv
          clear HW
          have HFV := Lib.hid fun d z => HF.out d z hv
          have HE2 : Hid (s.att id b = (7, { s with fl := updK s.fl (id, b) (s.fl (id, b) - 1) })) := by unfold Hid; rw [HE.out, if_pos (by omega)]
          rw [HE2.out]
          clear HE HE2 HF HV
          generalize hq : s.fl (id, b) = v at HL hv hfb HFV ⊢
          have hv1 : 1 ≤ (v : Int) := by omega
          have hvw : IntKind.i64.wrap ((v : Int) - 1) = (v : Int) - 1 := IntWalk.i64_in _ (by unfold isI63 at hfb; omega)
          clear hv hfb hq
          go_enter Tryz.func73, Tryz.ntmps73
          go_wp2_with fail
          refine H1.out.mono ?_
          rintro e w' ⟨rfl, rfl⟩
          go_wp2
          go_quiet (fail)
          go_wp2_with fail
          refine (HFV.out _ _ (by first | rfl | omega)).mono ?_
          rintro e w2 ⟨rfl, h2⟩
          have H2 := Lib.hid h2
          clear h2
          go_wp2
          go_returns
          exact ⟨rfl, H2.out⟩
end
end Go.Proofs.YtmpjnphnljakiaaGreatDoor
namespace Go.Proofs.YtmpjnphnljakiaaGreatDoor
open Go.RowKit Go.Maps
set_option linter.unusedVariables false

/-- The empty disk. -/
def dk0 (room : Nat) : DS := ⟨room, 0, fun _ => (false, 0), fun _ => 0, false, 0, 0, 0⟩
theorem flM_zero : flM (fun _ => 0) = fun _ => none := by funext k; rfl
theorem dk_new_no (room : Int) (w : World) (h : room < 1 ∨ 65535 < room) : Calls Tryz.prog 4 #[.int .i64 room] w fun e w' => e = .returned (.tuple #[.pointer none, .int .i64 1]) ∧ w = w' := by
  by_cases h1 : room < 1
  · clear h
    go_enter Tryz.func4, Tryz.ntmps4
    go_wp2
    go_returns
    exact ⟨rfl, rfl⟩
  · have h2 : 65535 < room := by omega
    have h3 : 1 ≤ room := by omega
    clear h
    go_enter Tryz.func4, Tryz.ntmps4
    go_wp2
    go_returns
    exact ⟨rfl, rfl⟩
set_option maxHeartbeats 1000000 in
theorem dk_new_yes (room : Nat) (w : World) (h1 : 1 ≤ room) (h2 : room ≤ 65535) : Calls Tryz.prog 4 #[.int .i64 room] w fun e w' => ∃ db pv fv mb, e = .returned (.tuple #[.pointer (some ⟨db, 0, none⟩), .int .i64 0]) ∧ DC w' db (dk0 room) 0 pv fv mb (fun _ => 0) 0 ∧ (∀ i, FD db pv fv mb i → w.heap.size ≤ i) ∧ Fr NoF w w' := by
  have hmm := @run_makeMap Tryz.prog
  have K : Hid (∀ wz : World, wz = (w.alloc (.map #[] 0)).alloc (.cells #[.int .i64 room, .slice none 0 0, .slice none 0 0, .map (some w.heap.size), .bool false, .int .i64 0, .int .i64 0, .int .i64 0] 52) → ∀ db, db = w.heap.size + 1 → DC wz db (dk0 room) 0 (.slice none 0 0) (.slice none 0 0) w.heap.size (fun _ => 0) 0 ∧ Fr NoF w wz) := by
    rintro wz rfl db rfl
    refine ⟨⟨⟨_, _, heap_alloc_new _ _ _ (by simp), rfl, fun i hi => ?_⟩, SlF.nil _ _ _ _, SlF.nil _ _ _ _, ?_, fun b q => (by cases q), fun b q => (by cases q), by omega, ⟨h1, h2⟩, Nat.zero_le _, fun k _ q => (by omega), fun k m q => (by omega), Nat.le_refl _, fun x => ⟨fun ⟨k, q, _⟩ => (by omega), fun ⟨q1, q2, _⟩ => (by have : x ≤ 0 := q2; omega)⟩, by omega, ⟨by show isI63 0; unfold isI63; omega, by show (0 : Nat) < _; omega, by show (0 : Nat) < _; omega⟩, fun a => by show isI63 0; unfold isI63; omega⟩, ((Fr.refl NoF w).alloc _).alloc _⟩
    · match i, hi with
      | 0, _ => rfl
      | 1, _ => rfl
      | 2, _ => rfl
      | 3, _ => rfl
      | 4, _ => rfl
      | 5, _ => rfl
      | 6, _ => rfl
      | 7, _ => rfl
    · have hm : MpK Tryz.prog 122 3 .i64 okA klA (w.alloc (.map #[] 0)) w.heap.size 0 (flM (fun _ => 0)) := by rw [flM_zero]; exact MpK.made _ _ _ _ _ _ w
      exact hm.fr ((Fr.refl NoF _).alloc _) (fun q => q)
  go_enter Tryz.func4, Tryz.ntmps4
  go_wp2
  go_returns
  obtain ⟨h, f⟩ := K.out _ rfl _ rfl
  refine ⟨w.heap.size + 1, _, _, _, rfl, h, fun i q => ?_, f⟩
  rcases q with q | q | q | q
  · omega
  · omega
  · cases q
  · cases q

section
variable {w w' : World} {db c mb nf : Nat} {s : DS} {pv fv : Value} {fh : Nat → Nat} {F : Nat → Prop}
theorem DS.att_1 (s : DS) (id : Nat) (b : Bool) : (s.att id b).1 = 0 ∧ s.has id = true ∨ (s.att id b).1 = 3 ∨ (s.att id b).1 = 7 := by
  unfold DS.att
  split
  · rename_i q
    split
    · exact .inr (.inr rfl)
    · split
      · exact .inr (.inr rfl)
      · exact .inl ⟨rfl, q⟩
  · exact .inr (.inl rfl)
theorem DS.att_2 (s : DS) (id : Nat) (b : Bool) : (s.att id b).2.room = s.room ∧ (s.att id b).2.np = s.np ∧ (s.att id b).2.pg = s.pg ∧ (s.att id b).2.rd = s.rd ∧ (s.att id b).2.wr = s.wr := by
  unfold DS.att
  split
  · split
    · exact ⟨rfl, rfl, rfl, rfl, rfl⟩
    · split
      · exact ⟨rfl, rfl, rfl, rfl, rfl⟩
      · dsimp only
        split <;> exact ⟨rfl, rfl, rfl, rfl, rfl⟩
  · exact ⟨rfl, rfl, rfl, rfl, rfl⟩
def DS.read (s : DS) (id : Nat) : (Nat × Nat) × DS := if (s.att id false).1 = 0 then (((s.pg (id - 1)).2, 0), { (s.att id false).2 with rd := s.rd + 1 }) else ((0, (s.att id false).1), (s.att id false).2)
def DS.write (s : DS) (id v : Nat) : Nat × DS := if (s.att id true).1 = 0 then (0, { (s.att id true).2 with wr := s.wr + 1, pg := upd s.pg (id - 1) ((s.pg (id - 1)).1, v) }) else ((s.att id true).1, (s.att id true).2)
/-- What a page holds is written. -/
theorem DC.value {g cap : Nat} (h : DC w db s c pv fv mb fh nf) (hpv : pv = .slice (some ⟨g, 0, none⟩) s.np cap) {k : Nat} (hk : k < s.np) (v : Nat) : DC (w.setCell ⟨g, k * 2 + 1, none⟩ (.int .u64 v)) db { s with pg := upd s.pg k ((s.pg k).1, v) } c pv fv mb fh nf ∧ Fr (fun i => i = g) w (w.setCell ⟨g, k * 2 + 1, none⟩ (.int .u64 v)) := by
  subst hpv
  have f : Fr (fun i => i = g) w (w.setCell ⟨g, k * 2 + 1, none⟩ (.int .u64 v)) := (Fr.refl (fun i => i = g) w).setCell (p := ⟨g, k * 2 + 1, none⟩) (.inl rfl) _
  obtain ⟨n1, n2, n3⟩ := h.n1 g rfl
  have hs := h.po.set (i := k * 2 + 1) (by omega) (.int .u64 v)
  rw [pgF_set1] at hs
  refine ⟨⟨h.hd.fr f (fun e => n1 e.symm), hs, h.fo.fr f (fun b q e => n3 (by rw [← e]; exact q)), h.mp.fr f (fun e => n2 e.symm), h.n1, h.n2, h.n3, h.r1, h.r2, h.hp, h.inj, h.nn, fun x => ?_, h.ct, h.lr, h.fb⟩, f⟩
  rw [h.fm x]
  have e : (upd s.pg k ((s.pg k).1, v) (x - 1)).1 = (s.pg (x - 1)).1 := by
    unfold upd; split
    · rename_i q; rw [q]
    · rfl
  show _ ↔ 1 ≤ x ∧ x ≤ s.np ∧ (upd s.pg k ((s.pg k).1, v) (x - 1)).1 = false
  rw [e]
set_option maxHeartbeats 1000000 in
theorem dk_read (h : DC w db s c pv fv mb fh nf) {id : Nat} (hu : isU32 id) (hrd : s.rd + 1 < 1000000000) : Calls Tryz.prog 52 #[.pointer (some ⟨db, 0, none⟩), .int .u32 id] w fun e w' => e = .returned (.tuple #[.int .u64 (s.read id).1.1, .int .i64 (s.read id).1.2]) ∧
    (∃ c', c' ≤ c ∧ DC w' db (s.read id).2 c' pv fv mb fh nf) ∧ Fr (fun i => i = db ∨ i = mb) w w' := by
  have HA := dk_attempt h hu false
  obtain ⟨a1, a2, a3, a4, a5⟩ := s.att_2 id false
  rcases s.att_1 id false with ⟨e, hh⟩ | e | e
  · have HE : Hid (s.read id = (((s.pg (id - 1)).2, 0), { (s.att id false).2 with rd := s.rd + 1 })) := by unfold Hid DS.read; rw [if_pos e]
    rw [HE.out]
    rw [e] at HA
    have hid : 1 ≤ id ∧ id ≤ s.np := by unfold DS.has at hh; simp at hh; omega
    have K : Hid (∀ w1 c1, DC w1 db (s.att id false).2 c1 pv fv mb fh nf → ∃ g cap, pv = .slice (some ⟨g, 0, none⟩) s.np cap ∧ ¬ g = db ∧ cap ≤ 9223372036854775807 ∧ s.np ≤ cap ∧ w1.cell? ⟨db, 6, none⟩ = some (.int .i64 s.rd) ∧ w1.cell? ⟨db, 1, none⟩ = some pv ∧ db < w1.heap.size ∧ g < w1.heap.size ∧ w1.frozen? ⟨db, 6, none⟩ = false ∧ w1.cell? ⟨g, (id - 1) * 2 + 1, none⟩ = some (.int .u64 (s.pg (id - 1)).2) ∧
        Hid (∀ z : Int, z = (s.rd : Int) + 1 → DC (w1.setCell ⟨db, 6, none⟩ (.int .i64 z)) db { (s.att id false).2 with rd := s.rd + 1 } c1 pv fv mb fh nf ∧ Fr (fun k => k = db) w1 (w1.setCell ⟨db, 6, none⟩ (.int .i64 z)))) := by
      intro w1 c1 h1
      obtain ⟨g, cap, p1, p2, p3, p4, p5, p6⟩ := h1.po.at (by rw [a2]; omega)
      rw [a2] at p1 p2 p6
      have c6 : w1.cell? ⟨db, 6, none⟩ = some (.int .i64 (s.att id false).2.rd) := h1.ce 6 (by omega)
      rw [a4] at c6
      refine ⟨g, cap, p1, (h1.n1 g (by rw [p1]; rfl)).1, by unfold maxLen at p3; omega, p2, c6, h1.ce 1 (by omega), h1.hd.lt, p4, h1.hd.frozen 6, ?_, ?_⟩
      · rw [p6 _ (by omega), pgF_1, a3]
      · rintro z rfl
        exact h1.head 6 (.int .i64 ((s.rd + 1 : Nat) : Int)) (dH_6 _ pv fv mb (s.rd + 1)) rfl rfl rfl rfl ⟨h1.lr.1, hrd, h1.lr.2.2⟩
    have HA2 := Lib.hid HA
    obtain ⟨k, rfl⟩ : ∃ k, id = k + 1 := ⟨id - 1, by omega⟩
    rw [show k + 1 - 1 = k from by omega] at *
    have hks : ((k + 1 : Nat) : Int) - 1 = (k : Int) := by omega
    have hkn : k < s.np := by omega
    generalize (s.pg k).2 = val at *
    have hnr := h.r2
    have hrr := h.r1
    clear h HA a1 a2 a3 a4 a5 e hh HE hu hid
    go_enter Tryz.func52, Tryz.ntmps52
    go_wp2_with fail
    refine HA2.out.mono ?_
    rintro e w1 ⟨rfl, ⟨c1, hc1, h1⟩, f1⟩
    obtain ⟨g, cap, hpv, hgd, hcap, hncap, c6, c1', lb, lg, fz, cg, KK⟩ := K.out w1 c1 h1
    have HPV := Lib.hid hpv
    rw [hpv] at c1'
    have HF1 := Lib.hid f1
    have HC1 := Lib.hid hc1
    clear h1 f1 hc1 K HA2 hpv
    have hgd2 : ¬ db = g := fun e => hgd e.symm
    go_wp2
    go_returns
    obtain ⟨q1, q2⟩ := KK.out _ (by first | rfl | omega)
    exact ⟨rfl, ⟨c1, HC1.out, q1⟩, HF1.out.trans q2 (fun i q => .inl (.inl q))⟩
  · have HE : Hid (s.read id = ((0, 3), (s.att id false).2)) := by unfold Hid DS.read; rw [if_neg (by omega), e]
    rw [HE.out]
    rw [e] at HA
    have HA2 := Lib.hid HA
    clear h HA a1 a2 a3 a4 a5 e HE hu
    go_enter Tryz.func52, Tryz.ntmps52
    go_wp2_with fail
    refine HA2.out.mono ?_
    rintro e w1 ⟨rfl, h1⟩
    have H1 := Lib.hid h1
    clear h1 HA2
    go_wp2
    go_returns
    exact ⟨rfl, H1.out⟩
  · have HE : Hid (s.read id = ((0, 7), (s.att id false).2)) := by unfold Hid DS.read; rw [if_neg (by omega), e]
    rw [HE.out]
    rw [e] at HA
    have HA2 := Lib.hid HA
    clear h HA a1 a2 a3 a4 a5 e HE hu
    go_enter Tryz.func52, Tryz.ntmps52
    go_wp2_with fail
    refine HA2.out.mono ?_
    rintro e w1 ⟨rfl, h1⟩
    have H1 := Lib.hid h1
    clear h1 HA2
    go_wp2
    go_returns
    exact ⟨rfl, H1.out⟩
end
end Go.Proofs.YtmpjnphnljakiaaGreatDoor
namespace Go.Proofs.YtmpjnphnljakiaaGreatDoor
open Go.RowKit Go.Maps
set_option linter.unusedVariables false

section
variable {w w' : World} {db c mb nf : Nat} {s : DS} {pv fv : Value} {fh : Nat → Nat} {F : Nat → Prop}
set_option maxHeartbeats 1000000 in
theorem dk_write (h : DC w db s c pv fv mb fh nf) {id : Nat} (hu : isU32 id) (v : Nat) (hwr : s.wr + 1 < 1000000000) : Calls Tryz.prog 76 #[.pointer (some ⟨db, 0, none⟩), .int .u32 id, .int .u64 v] w fun e w' => e = .returned (.int .i64 (s.write id v).1) ∧
    (∃ c', c' ≤ c ∧ DC w' db (s.write id v).2 c' pv fv mb fh nf) ∧ Fr (fun i => i = db ∨ i = mb ∨ pv.ownBlock = some i) w w' := by
  have HA := dk_attempt h hu true
  obtain ⟨a1, a2, a3, a4, a5⟩ := s.att_2 id true
  rcases s.att_1 id true with ⟨e, hh⟩ | e | e
  · have HE : Hid (s.write id v = (0, { (s.att id true).2 with wr := s.wr + 1, pg := upd s.pg (id - 1) ((s.pg (id - 1)).1, v) })) := by unfold Hid DS.write; rw [if_pos e]
    rw [HE.out]
    rw [e] at HA
    have hid : 1 ≤ id ∧ id ≤ s.np := by unfold DS.has at hh; simp at hh; omega
    have K : Hid (∀ w1 c1, DC w1 db (s.att id true).2 c1 pv fv mb fh nf → ∃ g cap, pv = .slice (some ⟨g, 0, none⟩) s.np cap ∧ ¬ g = db ∧ cap ≤ 9223372036854775807 ∧ s.np ≤ cap ∧ w1.cell? ⟨db, 7, none⟩ = some (.int .i64 s.wr) ∧ w1.cell? ⟨db, 1, none⟩ = some pv ∧ db < w1.heap.size ∧ g < w1.heap.size ∧ w1.frozen? ⟨db, 7, none⟩ = false ∧ w1.frozen? ⟨g, (id - 1) * 2 + 1, none⟩ = false ∧ w1.cell? ⟨g, (id - 1) * 2 + 1, none⟩ = some (.int .u64 (s.pg (id - 1)).2) ∧
        Hid (∀ z : Int, z = (s.wr : Int) + 1 → DC ((w1.setCell ⟨db, 7, none⟩ (.int .i64 z)).setCell ⟨g, (id - 1) * 2 + 1, none⟩ (.int .u64 v)) db { (s.att id true).2 with wr := s.wr + 1, pg := upd s.pg (id - 1) ((s.pg (id - 1)).1, v) } c1 pv fv mb fh nf ∧ Fr (fun k => k = db ∨ pv.ownBlock = some k) w1 ((w1.setCell ⟨db, 7, none⟩ (.int .i64 z)).setCell ⟨g, (id - 1) * 2 + 1, none⟩ (.int .u64 v)))) := by
      intro w1 c1 h1
      obtain ⟨g, cap, p1, p2, p3, p4, p5, p6⟩ := h1.po.at (by rw [a2]; omega)
      rw [a2] at p1 p2 p6
      have c7 : w1.cell? ⟨db, 7, none⟩ = some (.int .i64 (s.att id true).2.wr) := h1.ce 7 (by omega)
      rw [a5] at c7
      refine ⟨g, cap, p1, (h1.n1 g (by rw [p1]; rfl)).1, by unfold maxLen at p3; omega, p2, c7, h1.ce 1 (by omega), h1.hd.lt, p4, h1.hd.frozen 7, p5 _, ?_, ?_⟩
      · rw [p6 _ (by omega), pgF_1, a3]
      · rintro z rfl
        obtain ⟨h2, f2⟩ := h1.head 7 (.int .i64 ((s.wr + 1 : Nat) : Int)) (dH_7 _ pv fv mb (s.wr + 1)) rfl rfl rfl rfl ⟨h1.lr.1, h1.lr.2.1, hwr⟩
        obtain ⟨h3, f3⟩ := h2.value (k := id - 1) (p1.trans (by rw [a2])) (by show id - 1 < (s.att id true).2.np; rw [a2]; omega) v
        have h4 : DC ((w1.setCell ⟨db, 7, none⟩ (.int .i64 ((s.wr + 1 : Nat) : Int))).setCell ⟨g, (id - 1) * 2 + 1, none⟩ (.int .u64 v)) db { (s.att id true).2 with wr := s.wr + 1, pg := upd (s.att id true).2.pg (id - 1) (((s.att id true).2.pg (id - 1)).1, v) } c1 pv fv mb fh nf := h3
        rw [a3] at h4
        exact ⟨h4, (f2.mono (fun i q => .inl q)).trans f3 (fun i q => .inl (.inr (by rw [p1, q]; rfl)))⟩
    have HA2 := Lib.hid HA
    obtain ⟨k, rfl⟩ : ∃ k, id = k + 1 := ⟨id - 1, by omega⟩
    rw [show k + 1 - 1 = k from by omega] at *
    have hks : ((k + 1 : Nat) : Int) - 1 = (k : Int) := by omega
    have hkn : k < s.np := by omega
    generalize (s.pg k).2 = val at *
    have hnr := h.r2
    have hrr := h.r1
    clear h HA a1 a2 a3 a4 a5 e hh HE hu hid
    go_enter Tryz.func76, Tryz.ntmps76
    go_wp2_with fail
    refine HA2.out.mono ?_
    rintro e w1 ⟨rfl, ⟨c1, hc1, h1⟩, f1⟩
    obtain ⟨g, cap, hpv, hgd, hcap, hncap, c7, c1', lb, lg, fz, fg, cg, KK⟩ := K.out w1 c1 h1
    have HPV := Lib.hid hpv
    rw [hpv] at c1'
    have HF1 := Lib.hid f1
    have HC1 := Lib.hid hc1
    clear h1 f1 hc1 K HA2 hpv
    have hgd2 : ¬ db = g := fun e => hgd e.symm
    go_wp2
    go_returns
    obtain ⟨q1, q2⟩ := KK.out _ (by first | rfl | omega)
    exact ⟨rfl, ⟨c1, HC1.out, q1⟩, (HF1.out.mono (fun i q => by rcases q with q | q; exact .inl q; exact .inr (.inl q))).trans q2 (fun i q => .inl (by rcases q with q | q; exact .inl q; exact .inr (.inr q)))⟩
  · have HE : Hid (s.write id v = (3, (s.att id true).2)) := by unfold Hid DS.write; rw [if_neg (by omega), e]
    rw [HE.out]
    rw [e] at HA
    have HA2 := Lib.hid HA
    clear h HA a1 a2 a3 a4 a5 e HE hu
    go_enter Tryz.func76, Tryz.ntmps76
    go_wp2_with fail
    refine HA2.out.mono ?_
    rintro e w1 ⟨rfl, h1, f1⟩
    have H1 := Lib.hid h1
    have F1 := Lib.hid f1
    clear h1 f1 HA2
    go_wp2
    go_returns
    exact ⟨rfl, H1.out, F1.out.mono (fun i q => by rcases q with q | q; exact .inl q; exact .inr (.inl q))⟩
  · have HE : Hid (s.write id v = (7, (s.att id true).2)) := by unfold Hid DS.write; rw [if_neg (by omega), e]
    rw [HE.out]
    rw [e] at HA
    have HA2 := Lib.hid HA
    clear h HA a1 a2 a3 a4 a5 e HE hu
    go_enter Tryz.func76, Tryz.ntmps76
    go_wp2_with fail
    refine HA2.out.mono ?_
    rintro e w1 ⟨rfl, h1, f1⟩
    have H1 := Lib.hid h1
    have F1 := Lib.hid f1
    clear h1 f1 HA2
    go_wp2
    go_returns
    exact ⟨rfl, H1.out, F1.out.mono (fun i q => by rcases q with q | q; exact .inl q; exact .inr (.inl q))⟩

/-! ### Alloc -/
theorem EIp : EI Tryz.prog 48 85 2 16 := EI.mk' (z := .agg #[.bool false, .int .u64 0]) Tryz.underlying48 (by kernel_rfl) rfl (by decide)
set_option maxHeartbeats 1000000 in
theorem dk_alloc_full (h : DC w db s c pv fv mb fh 0) (hr : ¬ s.np < s.room) : Calls Tryz.prog 47 #[.pointer (some ⟨db, 0, none⟩)] w fun e w' => e = .returned (.tuple #[.int .u32 0, .int .i64 2]) ∧ ∃ d, w.drewN d = w' := by
  have c0 : w.cell? ⟨db, 0, none⟩ = some (.int .i64 s.room) := h.ce 0 (by omega)
  have c1 : w.cell? ⟨db, 1, none⟩ = some pv := h.ce 1 (by omega)
  have c2 : w.cell? ⟨db, 2, none⟩ = some fv := h.ce 2 (by omega)
  obtain ⟨va, vc, rfl, v1, v2⟩ := h.po.shape
  obtain ⟨fa, fc, rfl, _, _⟩ := h.fo.shape
  have hir : (s.room : Int) ≤ s.np := by omega
  have hr1 := h.r1
  have hr2 := h.r2
  unfold maxLen at v2
  clear h
  go_enter Tryz.func47, Tryz.ntmps47
  go_wp2
  go_quiet (fail)
  go_wp2
  go_returns
  exact ⟨rfl, _, rfl⟩
/-- A page more, at the end. -/
def DS.grow (s : DS) : DS := { s with np := s.np + 1, pg := upd s.pg s.np (true, 0) }
theorem DC.grow (h : DC w db s c pv fv mb fh nf) (hr : s.np < s.room) {pv' : Value} {w1 : World} (hs : SlF w1 85 2 pv' (s.np + 1) (upd (upd (pgF s.pg) (s.np * 2) (.bool true)) (s.np * 2 + 1) (.int .u64 0))) (f : Fr (fun b => pv.ownBlock = some b) w w1) (ho : ∀ b, pv'.ownBlock = some b → pv.ownBlock = some b ∨ w.heap.size ≤ b) :
    DC (w1.setCell ⟨db, 1, none⟩ pv') db s.grow c pv' fv mb fh nf ∧ Fr (fun i => i = db ∨ pv.ownBlock = some i) w (w1.setCell ⟨db, 1, none⟩ pv') := by
  have f2 : Fr (fun i => i = db) w1 (w1.setCell ⟨db, 1, none⟩ pv') := (Fr.refl (fun i => i = db) w1).setCell (p := ⟨db, 1, none⟩) (.inl rfl) _
  have f3 : Fr (fun i => i = db ∨ pv.ownBlock = some i) w (w1.setCell ⟨db, 1, none⟩ pv') := (f.mono (fun i q => .inr q)).trans f2 (fun i q => .inl (.inl q))
  have hl := h.hd.lt
  have hm := h.mp.lt
  have n1' : ∀ b, pv'.ownBlock = some b → ¬ b = db ∧ ¬ b = mb ∧ ¬ fv.ownBlock = some b := by
    intro b q
    rcases ho b q with q | q
    · exact h.n1 b q
    · exact ⟨by omega, by omega, fun q2 => by have := h.fo.lt b q2; omega⟩
  have hb1 := (h.hd.fr f (fun e => (h.n1 db e).1 rfl)).set 1 pv'
  have eh : upd (dH s pv fv mb) 1 pv' = dH s.grow pv' fv mb := by
    funext j
    match j with
    | 0 => rfl
    | 1 => rfl
    | 2 => rfl
    | 3 => rfl
    | 4 => rfl
    | 5 => rfl
    | 6 => rfl
    | 7 => rfl
    | j + 8 => simp [upd, dH]
  rw [eh] at hb1
  rw [show (Value.int .u64 0) = .int .u64 ((0 : Nat) : Int) from rfl, pgF_set] at hs
  refine ⟨⟨hb1, hs.fr f2 (fun b q e => (n1' b q).1 e), h.fo.fr f3 (fun b q e => by rcases e with e | e; exact (h.n2 b q).1 e; exact (h.n1 b e).2.2 q), h.mp.fr f3 (fun e => by rcases e with e | e; exact h.n3 e; exact (h.n1 mb e).2.1 rfl), n1', h.n2, h.n3, h.r1, by show s.np + 1 ≤ s.room; omega, h.hp, h.inj, by show nf ≤ s.np + 1; exact Nat.le_succ_of_le h.nn, fun x => ?_, h.ct, h.lr, h.fb⟩, f3⟩
  rw [h.fm x]
  show _ ↔ 1 ≤ x ∧ x ≤ s.np + 1 ∧ (upd s.pg s.np (true, 0) (x - 1)).1 = false
  by_cases e : x - 1 = s.np
  · rw [e, upd_same]
    constructor
    · intro q; omega
    · intro q; exact absurd q.2.2 (by simp)
  · rw [upd_other _ _ e]
    constructor
    · intro q; exact ⟨q.1, by omega, q.2.2⟩
    · intro q; exact ⟨q.1, by omega, q.2.2⟩
set_option maxHeartbeats 1000000 in
theorem dk_alloc_new (h : DC w db s c pv fv mb fh 0) (hr : s.np < s.room) : Calls Tryz.prog 47 #[.pointer (some ⟨db, 0, none⟩)] w fun e w' => e = .returned (.tuple #[.int .u32 (s.np + 1 : Nat), .int .i64 0]) ∧
    (∃ pv', DC w' db s.grow c pv' fv mb fh 0 ∧ ∀ b, pv'.ownBlock = some b → pv.ownBlock = some b ∨ w.heap.size ≤ b) ∧ Fr (fun i => i = db ∨ pv.ownBlock = some i) w w' := by
  have c0 : w.cell? ⟨db, 0, none⟩ = some (.int .i64 s.room) := h.ce 0 (by omega)
  have c1 : w.cell? ⟨db, 1, none⟩ = some pv := h.ce 1 (by omega)
  have c2 : w.cell? ⟨db, 2, none⟩ = some fv := h.ce 2 (by omega)
  obtain ⟨va, vc, rfl, v1, v2⟩ := h.po.shape
  obtain ⟨fa, fc, rfl, _, _⟩ := h.fo.shape
  have hr1 := h.r1
  have hr2 := h.r2
  have hri : (s.np : Int) < s.room := by omega
  have lb := h.hd.lt
  have hcv : IntKind.u32.wrap ((s.np + 1 : Nat) : Int) = ((s.np + 1 : Nat) : Int) := IntWalk.u32_in _ (by omega)
  unfold maxLen at v2
  have HP := Lib.hid h.po
  have K : Hid (∀ d pv' w2, SlF w2 85 2 pv' (s.np + 1) (upd (upd (pgF s.pg) (s.np * 2) (.bool true)) (s.np * 2 + 1) (.int .u64 0)) → Fr (fun b => (Value.slice va s.np vc).ownBlock = some b) ((w.drewN d).alloc (.cells #[.bool true, .int .u64 0] 85)) w2 → (∀ b, pv'.ownBlock = some b → (Value.slice va s.np vc).ownBlock = some b ∨ ((w.drewN d).alloc (.cells #[.bool true, .int .u64 0] 85)).heap.size ≤ b) →
      (∃ a8 c8, pv' = .slice a8 (s.np + 1 : Nat) c8) ∧ db < w2.heap.size ∧ w2.cell? ⟨db, 1, none⟩ = some (.slice va s.np vc) ∧ w2.frozen? ⟨db, 1, none⟩ = false ∧
      Hid ((∃ pv'', DC (w2.setCell ⟨db, 1, none⟩ pv') db s.grow c pv'' (.slice fa 0 fc) mb fh 0 ∧ ∀ b, pv''.ownBlock = some b → (Value.slice va s.np vc).ownBlock = some b ∨ w.heap.size ≤ b) ∧ Fr (fun i => i = db ∨ (Value.slice va s.np vc).ownBlock = some i) w (w2.setCell ⟨db, 1, none⟩ pv')) ∧
      (w2.setCell ⟨db, 1, none⟩ pv').cell? ⟨db, 1, none⟩ = some pv') := by
    intro d pv' w2 hs f hob
    have f0 : Fr (fun b => (Value.slice va s.np vc).ownBlock = some b) w w2 := Fr.trans (Fr.none (((Fr.refl NoF w).drewN d).alloc _)) f (fun i q => .inl q)
    have ho : ∀ b, pv'.ownBlock = some b → (Value.slice va s.np vc).ownBlock = some b ∨ w.heap.size ≤ b := fun b q => (hob b q).imp id (fun q => by simp at q; omega)
    obtain ⟨g1, g2⟩ := h.grow hr hs f0 ho
    obtain ⟨a8, c8, e, _, _⟩ := hs.shape
    have hb2 := h.hd.fr f0 (fun e => (h.n1 db e).1 rfl)
    exact ⟨⟨a8, c8, e⟩, hb2.lt, hb2.cell (i := 1) (by omega), hb2.frozen 1, ⟨⟨pv', g1, ho⟩, g2⟩, g1.ce 1 (by omega)⟩
  clear h
  go_enter Tryz.func47, Tryz.ntmps47
  go_wp2
  go_quiet (fail)
  go_wp2_with (at_builtin; go_must (refine appLB (base := 0) EIp rfl _ _ rfl (by rfl) (by rfl) (Nat.zero_le _) (own_keep HP.out (by repeat (first | exact Fr.refl NoF _ | apply Fr.drewN | apply Fr.alloc)) (fun _ _ q => q)) (sl_heap (size := 2) (n := 1) (cs := #[.bool true, .int .u64 0]) (heap_alloc_new _ _ _ (by simp)) (by rfl) (by unfold maxLen; omega) (by simp [Value.oneCell'])) (by unfold maxLen; omega) (by omega) ?_); intro v' w2 hown' hf' hob'; obtain ⟨⟨a8, c8, rfl⟩, k2, k3, k4, k5, k6⟩ := K.out _ _ w2 (SlF.snoc2 hown') hf' hob'; clear hown' hf' hob')
  go_returns
  exact ⟨by first | rfl | (rw [← hcv]), k5.out⟩
end
end Go.Proofs.YtmpjnphnljakiaaGreatDoor
namespace Go.Proofs.YtmpjnphnljakiaaGreatDoor
open Go.RowKit Go.Maps
set_option linter.unusedVariables false

/-- Numbers without repeats below N: no more than N. -/
theorem pigeon : ∀ (N n : Nat) (f : Nat → Nat), InjF (fun x : Nat => x) f n → (∀ k, k < n → f k < N) → n ≤ N := by
  intro N
  induction N with
  | zero =>
    intro n f hi hb
    rcases Nat.eq_zero_or_pos n with e | e
    · omega
    · have := hb 0 e; omega
  | succ N ih =>
    intro n f hi hb
    by_cases hk : ∃ k, k < n ∧ f k = N
    · obtain ⟨k, k1, k2⟩ := hk
      obtain ⟨m, rfl⟩ : ∃ m, n = m + 1 := ⟨n - 1, by omega⟩
      have hs := swp_inj (f := fun x : Nat => x) (a := f) (i := k) (j := m) k1 (by omega) hi
      have := ih m (swp f k m) (fun a b ha hb' e => hs a b (by omega) (by omega) e) (fun j hj => by
        show (if j = k then f m else if j = m then f k else f j) < N
        split
        · rename_i e
          have h1 := hb m (by omega)
          have h2 : ¬ f m = N := fun q => by have := hi m k (by omega) k1 (by show f m = f k; omega); omega
          omega
        · rename_i e
          rw [if_neg (by omega)]
          have h1 := hb j (by omega)
          have h2 : ¬ f j = N := fun q => by have := hi j k (by omega) k1 (by show f j = f k; omega); exact e this
          omega)
      omega
    · have := ih n f hi (fun k q => by have h1 := hb k q; have h2 : ¬ f k = N := fun e => hk ⟨k, q, e⟩; omega)
      omega
theorem push_up {α : Type} (lt : α → α → Bool) {a : Nat → α} {n : Nat} (t : α) (h : IsHeap lt a n) : UpHeap lt (upd a n t) (n + 1) n := by
  refine ⟨fun k h0 h1 h2 => ?_, fun k h0 h1 h2 h3 => ?_⟩
  · have hp : par k < n := by unfold par; omega
    rw [upd_other _ _ h2, upd_other _ _ (by omega)]
    exact h k h0 (by omega)
  · exfalso; unfold par at h2; omega
theorem dH_fv (s : DS) (pv fv fv' : Value) (mb : Nat) : upd (dH s pv fv mb) 2 fv' = dH s pv fv' mb := by
  funext j
  match j with
  | 0 => rfl
  | 1 => rfl
  | 2 => rfl
  | 3 => rfl
  | 4 => rfl
  | 5 => rfl
  | 6 => rfl
  | 7 => rfl
  | j + 8 => simp [upd, dH]
def DS.gone (s : DS) (id : Nat) : DS := { s with pg := upd s.pg (id - 1) (false, 0) }

section
variable {w w' : World} {db c mb nf : Nat} {s : DS} {pv fv : Value} {fh : Nat → Nat} {F : Nat → Prop}
theorem DC.small (h : DC w db s c pv fv mb fh nf) : nf ≤ 65535 := by
  have := h.nn; have := h.r1; have := h.r2; omega
/-- A page's two cells are written; what is freed isn't told of it yet. -/
theorem DC.page2 {g cap : Nat} (h : DC w db s c pv fv mb fh nf) (hpv : pv = .slice (some ⟨g, 0, none⟩) s.np cap) {k : Nat} (hk : k < s.np) (b : Bool) (v : Nat) {w1 : World} (hw : w1 = (w.setCell ⟨g, k * 2, none⟩ (.bool b)).setCell ⟨g, k * 2 + 1, none⟩ (.int .u64 v)) :
    SlF w1 85 2 pv s.np (pgF (upd s.pg k (b, v))) ∧ Fr (fun i => pv.ownBlock = some i) w w1 := by
  subst hw
  subst hpv
  have hs := (h.po.set (i := k * 2) (by omega) (.bool b)).set (i := k * 2 + 1) (by omega) (.int .u64 v)
  rw [pgF_set] at hs
  exact ⟨hs, (((Fr.refl (fun i => i = g) w).setCell (p := ⟨g, k * 2, none⟩) (.inl rfl) _).setCell (p := ⟨g, k * 2 + 1, none⟩) (.inl rfl) _).mono (fun i q => by rw [q]; rfl)⟩
/-- An id more in the heap of freed ones. -/
theorem DC.freed (h : DC w db s c pv fv mb fh nf) {id : Nat} (hh : s.has id = true) {w1 w2 : World} (hs : SlF w1 85 2 pv s.np (pgF (upd s.pg (id - 1) (false, 0)))) (f1 : Fr (fun i => pv.ownBlock = some i) w w1) {F F' : Nat → Prop} (hF : ∀ i, F i ↔ i = db ∨ fv.ownBlock = some i)
    (hr : HRd db (dH s pv fv mb) w2 (upF ltN (upd fh nf id) nf) (nf + 1) F') (f2 : Fr F w1 w2) (hF' : ∀ i, F' i → F i ∨ w1.heap.size ≤ i) :
    (∃ fv', DC w2 db (s.gone id) c pv fv' mb (upF ltN (upd fh nf id) nf) (nf + 1) ∧ ∀ b, fv'.ownBlock = some b → fv.ownBlock = some b ∨ w.heap.size ≤ b) ∧ Fr (FD db pv fv mb) w w2 := by
  obtain ⟨fv', hb, hsl, hd, hn, hFe⟩ := hr
  rw [dH_fv] at hb
  have hid : 1 ≤ id ∧ id ≤ s.np ∧ (s.pg (id - 1)).1 = true := by unfold DS.has at hh; simp at hh; exact ⟨hh.1.1, hh.1.2, hh.2⟩
  have ho : ∀ b, fv'.ownBlock = some b → fv.ownBlock = some b ∨ w.heap.size ≤ b := by
    intro b q
    rcases hF' b ((hFe b).2 (.inr q)) with e | e
    · rcases (hF b).1 e with e | e
      · exact absurd e (hd b q)
      · exact .inl e
    · exact .inr (Nat.le_trans f1.size e)
  have hl := h.hd.lt
  have hm := h.mp.lt
  have hni : ∀ k, k < nf → ¬ fh k = id := by
    intro k hk e
    have := (h.fm id).1 ⟨k, hk, e⟩
    rw [hid.2.2] at this
    exact absurd this.2.2 (by simp)
  have hmem : ∀ x, (∃ k, k < nf + 1 ∧ upF ltN (upd fh nf id) nf k = x) ↔ x = id ∨ ∃ k, k < nf ∧ fh k = x := by
    intro x
    rw [up_mem ltN x (n := nf + 1) (upd fh nf id) nf (by omega)]
    constructor
    · rintro ⟨k, k1, k2⟩
      by_cases e : k = nf
      · subst e; rw [upd_same] at k2; exact .inl k2.symm
      · rw [upd_other _ _ e] at k2; exact .inr ⟨k, by omega, k2⟩
    · rintro (e | ⟨k, k1, k2⟩)
      · exact ⟨nf, by omega, by rw [upd_same, e]⟩
      · exact ⟨k, by omega, by rw [upd_other _ _ (by omega)]; exact k2⟩
  have hinj : InjF (fun x : Nat => x) (upF ltN (upd fh nf id) nf) (nf + 1) := by
    refine up_inj ltN (upd fh nf id) nf (by omega) ?_
    intro a b ha hb e
    dsimp only at e
    by_cases e1 : a = nf
    · by_cases e2 : b = nf
      · omega
      · rw [e1, upd_same, upd_other _ _ e2] at e
        exact absurd e.symm (hni b (by omega))
    · by_cases e2 : b = nf
      · rw [e2, upd_same, upd_other _ _ e1] at e
        exact absurd e (hni a (by omega))
      · rw [upd_other _ _ e1, upd_other _ _ e2] at e
        exact h.inj a b (by omega) (by omega) e
  have hfm : ∀ x, (∃ k, k < nf + 1 ∧ upF ltN (upd fh nf id) nf k = x) ↔ 1 ≤ x ∧ x ≤ s.np ∧ (upd s.pg (id - 1) (false, 0) (x - 1)).1 = false := by
    intro x
    rw [hmem x, h.fm x]
    by_cases e : x = id
    · subst e
      rw [upd_same]
      exact ⟨fun _ => ⟨hid.1, hid.2.1, rfl⟩, fun _ => .inl rfl⟩
    · constructor
      · rintro (q | q)
        · exact absurd q e
        · rw [upd_other _ _ (by omega)]; exact q
      · intro q
        rw [upd_other _ _ (by omega)] at q; exact .inr q
  have hnn : nf + 1 ≤ s.np := by
    refine pigeon s.np (nf + 1) (fun k => upF ltN (upd fh nf id) nf k - 1) (fun a b ha hb e => ?_) (fun k hk => ?_)
    · have e1 := (hfm _).1 ⟨a, ha, rfl⟩
      have e2 := (hfm _).1 ⟨b, hb, rfl⟩
      exact hinj a b ha hb (by show upF ltN (upd fh nf id) nf a = upF ltN (upd fh nf id) nf b; have e3 : upF ltN (upd fh nf id) nf a - 1 = upF ltN (upd fh nf id) nf b - 1 := e; omega)
    · have e1 := (hfm _).1 ⟨k, hk, rfl⟩
      show upF ltN (upd fh nf id) nf k - 1 < s.np; omega
  have f12 : Fr (FD db pv fv mb) w w2 := (f1.mono (fun i q => .inr (.inr (.inl q)))).trans f2 (fun i q => .inl (by rcases (hF i).1 q with q | q; exact .inl q; exact .inr (.inr (.inr q))))
  have n1' : ∀ b, pv.ownBlock = some b → ¬ b = db ∧ ¬ b = mb ∧ ¬ fv'.ownBlock = some b := by
    intro b q
    refine ⟨(h.n1 b q).1, (h.n1 b q).2.1, fun q2 => ?_⟩
    rcases ho b q2 with e | e
    · exact (h.n1 b q).2.2 e
    · have := h.po.lt b q; omega
  have n2' : ∀ b, fv'.ownBlock = some b → ¬ b = db ∧ ¬ b = mb := by
    intro b q
    rcases ho b q with e | e
    · exact h.n2 b e
    · exact ⟨by omega, by omega⟩
  exact ⟨⟨fv', ⟨hb, hs.fr f2 (fun b q e => by rcases (hF b).1 e with e | e; exact (h.n1 b q).1 e; exact (h.n1 b q).2.2 e), hsl, (h.mp.fr f1 (fun e => (h.n1 mb e).2.1 rfl)).fr f2 (fun e => by rcases (hF mb).1 e with e | e; exact h.n3 e; exact (h.n2 mb e).2 rfl), n1', n2', h.n3, h.r1, h.r2, (push_up ltN id h.hp).up ltN_ord _ nf (by omega), hinj, hnn, hfm, h.ct, h.lr, h.fb⟩, ho⟩, f12⟩
theorem DC.heap (h : DC w db s c pv fv mb fh nf) {w1 : World} (f1 : Fr (fun i => pv.ownBlock = some i) w w1) : HRd db (dH s pv fv mb) w1 fh nf (fun i => i = db ∨ fv.ownBlock = some i) := by
  refine ⟨fv, ?_, h.fo.fr f1 (fun b q e => (h.n1 b e).2.2 q), fun b q => (h.n2 b q).1, by have := h.small; omega, fun i => Iff.rfl⟩
  rw [dH_fv]
  exact h.hd.fr f1 (fun e => (h.n1 db e).1 rfl)
set_option maxHeartbeats 1000000 in
theorem dk_free_no (h : DC w db s c pv fv mb fh nf) {id : Nat} (hu : isU32 id) (hh : s.has id = false) : Calls Tryz.prog 49 #[.pointer (some ⟨db, 0, none⟩), .int .u32 id] w fun e w' => e = .returned (.int .i64 3) ∧ w = w' := by
  have HA := dk_has h hu
  rw [hh] at HA
  have HA2 := Lib.hid HA
  clear h HA hh hu
  go_enter Tryz.func49, Tryz.ntmps49
  go_wp2_with fail
  refine HA2.out.mono ?_
  rintro e w1 ⟨rfl, rfl⟩
  go_wp2
  go_returns
  exact ⟨rfl, rfl⟩
set_option maxHeartbeats 2000000 in
theorem dk_free_yes (h : DC w db s c pv fv mb fh nf) {id : Nat} (hu : isU32 id) (hh : s.has id = true) : Calls Tryz.prog 49 #[.pointer (some ⟨db, 0, none⟩), .int .u32 id] w fun e w' => e = .returned (.int .i64 0) ∧
    (∃ fv', DC w' db (s.gone id) c pv fv' mb (upF ltN (upd fh nf id) nf) (nf + 1) ∧ ∀ b, fv'.ownBlock = some b → fv.ownBlock = some b ∨ w.heap.size ≤ b) ∧ Fr (FD db pv fv mb) w w' := by
  have HA := dk_has h hu
  rw [hh] at HA
  have HA2 := Lib.hid HA
  have hid : 1 ≤ id ∧ id ≤ s.np ∧ (s.pg (id - 1)).1 = true := by unfold DS.has at hh; simp at hh; exact ⟨hh.1.1, hh.1.2, hh.2⟩
  obtain ⟨g, cap, p1, p2, p3, p4, p5, p6⟩ := h.po.at (by omega)
  have c1 : w.cell? ⟨db, 1, none⟩ = some pv := h.ce 1 (by omega)
  have lb := h.hd.lt
  have hgd : ¬ g = db := (h.n1 g (by rw [p1]; rfl)).1
  have hgd2 : ¬ db = g := fun e => hgd e.symm
  have HS := h.small
  have K : Hid (∀ w1, w1 = (w.setCell ⟨g, (id - 1) * 2, none⟩ (.bool false)).setCell ⟨g, (id - 1) * 2 + 1, none⟩ (.int .u64 0) → Calls Tryz.prog 68 #[.iface 116 (.pointer (some ⟨db, 2, none⟩)), .iface 44 (.int .u32 id)] w1 fun e w' => e = .returned (.tuple #[]) ∧ (∃ fv', DC w' db (s.gone id) c pv fv' mb (upF ltN (upd fh nf id) nf) (nf + 1) ∧ ∀ b, fv'.ownBlock = some b → fv.ownBlock = some b ∨ w.heap.size ≤ b) ∧ Fr (FD db pv fv mb) w w') := by
    intro w1 hw
    obtain ⟨q1, q2⟩ := h.page2 p1 (k := id - 1) (by omega) false 0 hw
    have hp := heap_push (idh_sys db (dH s pv fv mb)) (h.heap q2) (t := id) (by show nf < 900000; omega)
    refine hp.mono ?_
    rintro e w2 ⟨rfl, F', h1, h2, h3⟩
    exact ⟨rfl, h.freed hh q1 q2 (fun i => Iff.rfl) h1 h2 h3⟩
  have cf0 := p5 ((id - 1) * 2)
  have cf1 := p5 ((id - 1) * 2 + 1)
  have cg0 := p6 ((id - 1) * 2) (by omega)
  have cg1 := p6 ((id - 1) * 2 + 1) (by omega)
  rw [p1] at c1
  unfold maxLen at p3
  obtain ⟨k, rfl⟩ : ∃ k, id = k + 1 := ⟨id - 1, by omega⟩
  rw [show k + 1 - 1 = k from by omega] at *
  rw [pgF_0] at cg0
  rw [pgF_1] at cg1
  have hks : ((k + 1 : Nat) : Int) - 1 = (k : Int) := by omega
  have hkn : k < s.np := by omega
  have hnr := h.r2
  have hrr := h.r1
  clear h HA hh hu hid p5 p6 p1
  go_enter Tryz.func49, Tryz.ntmps49
  go_wp2_with fail
  refine HA2.out.mono ?_
  rintro e w1 ⟨rfl, rfl⟩
  go_wp2_with fail
  refine (K.out _ (by rfl)).mono ?_
  rintro e w2 ⟨rfl, h2⟩
  have H2 := Lib.hid h2
  clear h2
  go_wp2
  go_returns
  exact ⟨rfl, H2.out⟩
end
end Go.Proofs.YtmpjnphnljakiaaGreatDoor
namespace Go.Proofs.YtmpjnphnljakiaaGreatDoor
open Go.RowKit Go.Maps
set_option linter.unusedVariables false

section
variable {α : Type} {lt : α → α → Bool}
theorem pop_heap (O : Ord lt) {a : Nat → α} {n : Nat} (h : IsHeap lt a (n + 1)) : IsHeap lt (popF lt a n) n := by
  unfold popF
  split
  · rename_i e; subst e; intro k h0 h1; omega
  · rename_i e
    refine (GapHeap.down O n (swp a 0 n) 0 (by omega) (by omega) ⟨fun k h0 h1 h2 h3 => ?_, fun k h0 h1 h2 h3 => (by omega)⟩).2.2 (.inl rfl)
    have hp : par k < n := by unfold par; omega
    have e1 : swp a 0 n k = a k := by unfold swp; rw [if_neg h2, if_neg (by omega)]
    have e2 : swp a 0 n (par k) = a (par k) := by unfold swp; rw [if_neg h3, if_neg (by omega)]
    rw [e1, e2]
    exact h k h0 (by omega)
theorem pop_swp {β : Type} {f : α → β} {a : Nat → α} {n : Nat} (hi : InjF f a (n + 1)) : InjF f (popF lt a n) n ∧ ∀ x, (∃ k, k < n ∧ popF lt a n k = x) ↔ ∃ k, k < n ∧ swp a 0 n k = x := by
  unfold popF
  split
  · rename_i e
    subst e
    exact ⟨fun k m h1 => (by omega), fun x => ⟨fun ⟨k, q, _⟩ => (by omega), fun ⟨k, q, _⟩ => (by omega)⟩⟩
  · rename_i e
    have hs := swp_inj (f := f) (a := a) (i := 0) (j := n) (n := n + 1) (by omega) (by omega) hi
    exact ⟨down_inj (f := f) lt n (swp a 0 n) 0 (by omega) (by omega) (fun k m h1 h2 => hs k m (by omega) (by omega)), fun x => down_mem lt x n (swp a 0 n) 0 (by omega) (by omega)⟩
end
theorem pop_mem {a : Nat → Nat} {n : Nat} (hi : InjF (fun x : Nat => x) a (n + 1)) (x : Nat) : (∃ k, k < n ∧ popF ltN a n k = x) ↔ (∃ k, k < n + 1 ∧ a k = x) ∧ ¬ x = a 0 := by
  rw [(pop_swp (lt := ltN) hi).2 x]
  constructor
  · rintro ⟨k, k1, k2⟩
    by_cases e : k = 0
    · subst e
      have e1 : swp a 0 n 0 = a n := by unfold swp; rw [if_pos rfl]
      rw [e1] at k2
      exact ⟨⟨n, by omega, k2⟩, fun q => by have := hi n 0 (by omega) (by omega) (by show a n = a 0; omega); omega⟩
    · have e1 : swp a 0 n k = a k := by unfold swp; rw [if_neg e, if_neg (by omega)]
      rw [e1] at k2
      exact ⟨⟨k, by omega, k2⟩, fun q => by have := hi k 0 (by omega) (by omega) (by show a k = a 0; omega); omega⟩
  · rintro ⟨⟨k, k1, k2⟩, k3⟩
    have hk0 : ¬ k = 0 := fun e => k3 (by rw [← k2, e])
    by_cases e : k = n
    · subst e
      exact ⟨0, by omega, by unfold swp; rw [if_pos rfl]; exact k2⟩
    · exact ⟨k, by omega, by unfold swp; rw [if_neg hk0, if_neg e]; exact k2⟩
/-- A freed id is had again. -/
def DS.reuse (s : DS) (id : Nat) : DS := { s with pg := upd s.pg (id - 1) (true, 0) }
section
variable {w w' : World} {db c mb nf : Nat} {s : DS} {pv fv : Value} {fh : Nat → Nat} {F : Nat → Prop}
/-- The least of the freed ids. -/
theorem DC.least (h : DC w db s c pv fv mb fh (nf + 1)) : 1 ≤ fh 0 ∧ fh 0 ≤ s.np ∧ (s.pg (fh 0 - 1)).1 = false ∧ ∀ x, 1 ≤ x → x ≤ s.np → (s.pg (x - 1)).1 = false → fh 0 ≤ x := by
  obtain ⟨h1, h2, h3⟩ := (h.fm (fh 0)).1 ⟨0, by omega, rfl⟩
  refine ⟨h1, h2, h3, fun x x1 x2 x3 => ?_⟩
  obtain ⟨k, k1, k2⟩ := (h.fm x).2 ⟨x1, x2, x3⟩
  have := h.hp.root ltN_ord k k1
  unfold ltN at this
  simp at this
  omega
theorem DC.reused (h : DC w db s c pv fv mb fh (nf + 1)) {w1 : World} (hF : ∀ i, F i ↔ i = db ∨ fv.ownBlock = some i) (hr : HRd db (dH s pv fv mb) w1 (popF ltN fh nf) nf F) (f1 : Fr F w w1) :
    w1.cell? ⟨db, 1, none⟩ = some pv ∧ db < w1.heap.size ∧ SlF w1 85 2 pv s.np (pgF s.pg) ∧
    Hid (∀ w2, SlF w2 85 2 pv s.np (pgF (upd s.pg (fh 0 - 1) (true, 0))) → Fr (fun i => pv.ownBlock = some i) w1 w2 → (∃ fv', DC w2 db (s.reuse (fh 0)) c pv fv' mb (popF ltN fh nf) nf ∧ ∀ b, fv'.ownBlock = some b → fv.ownBlock = some b) ∧ Fr (FD db pv fv mb) w w2) := by
  obtain ⟨fv', hb, hsl, hd, hn, hFe⟩ := hr
  rw [dH_fv] at hb
  obtain ⟨l1, l2, l3, l4⟩ := h.least
  have ho : ∀ b, fv'.ownBlock = some b → fv.ownBlock = some b := by
    intro b q
    rcases (hF b).1 ((hFe b).2 (.inr q)) with e | e
    · exact absurd e (hd b q)
    · exact e
  have hs1 : SlF w1 85 2 pv s.np (pgF s.pg) := h.po.fr f1 (fun b q e => by rcases (hF b).1 e with e | e; exact (h.n1 b q).1 e; exact (h.n1 b q).2.2 e)
  refine ⟨hb.cell (i := 1) (by omega), hb.lt, hs1, ?_⟩
  intro w2 hs f2
  have n1' : ∀ b, pv.ownBlock = some b → ¬ b = db ∧ ¬ b = mb ∧ ¬ fv'.ownBlock = some b := fun b q => ⟨(h.n1 b q).1, (h.n1 b q).2.1, fun q2 => (h.n1 b q).2.2 (ho b q2)⟩
  have hi := (pop_swp (lt := ltN) h.inj).1
  have hfm : ∀ x, (∃ k, k < nf ∧ popF ltN fh nf k = x) ↔ 1 ≤ x ∧ x ≤ s.np ∧ (upd s.pg (fh 0 - 1) (true, 0) (x - 1)).1 = false := by
    intro x
    rw [pop_mem h.inj x, h.fm x]
    by_cases e : x = fh 0
    · subst e
      rw [upd_same]
      exact ⟨fun q => absurd rfl q.2, fun q => absurd q.2.2 (by simp)⟩
    · constructor
      · rintro ⟨q, _⟩
        rw [upd_other _ _ (by omega)]; exact q
      · intro q
        rw [upd_other _ _ (by omega)] at q; exact ⟨q, e⟩
  refine ⟨⟨fv', ⟨hb.fr f2 (fun e => (h.n1 db e).1 rfl), hs, hsl.fr f2 (fun b q e => (n1' b e).2.2 q), (h.mp.fr f1 (fun e => by rcases (hF mb).1 e with e | e; exact h.n3 e; exact (h.n2 mb e).2 rfl)).fr f2 (fun e => (h.n1 mb e).2.1 rfl), n1', fun b q => h.n2 b (ho b q), h.n3, h.r1, h.r2, pop_heap ltN_ord h.hp, hi, by show nf ≤ s.np; have := h.nn; omega, hfm, h.ct, h.lr, h.fb⟩, ho⟩, ?_⟩
  exact (f1.mono (fun i q => by rcases (hF i).1 q with q | q; exact .inl q; exact .inr (.inr (.inr q)))).trans f2 (fun i q => .inl (.inr (.inr (.inl q))))
set_option maxHeartbeats 2000000 in
theorem dk_alloc_pop (h : DC w db s c pv fv mb fh (nf + 1)) : Calls Tryz.prog 47 #[.pointer (some ⟨db, 0, none⟩)] w fun e w' => e = .returned (.tuple #[.int .u32 (fh 0 : Nat), .int .i64 0]) ∧
    (∃ fv', DC w' db (s.reuse (fh 0)) c pv fv' mb (popF ltN fh nf) nf ∧ ∀ b, fv'.ownBlock = some b → fv.ownBlock = some b) ∧ Fr (FD db pv fv mb) w w' := by
  have c2 : w.cell? ⟨db, 2, none⟩ = some fv := h.ce 2 (by omega)
  obtain ⟨l1, l2, l3, l4⟩ := h.least
  have hsm := h.small
  have hnr := h.r2
  have hrr := h.r1
  have lb := h.hd.lt
  have HP : Hid (Calls Tryz.prog 60 #[.iface 116 (.pointer (some ⟨db, 2, none⟩))] w fun e w' => e = .returned (encU (fh 0)) ∧ HRd db (dH s pv fv mb) w' (popF ltN fh nf) nf (fun i => i = db ∨ fv.ownBlock = some i) ∧ Fr (fun i => i = db ∨ fv.ownBlock = some i) w w') := heap_pop (idh_sys db (dH s pv fv mb)) (h.heap (Fr.refl _ w))
  have K : Hid (∀ w1, HRd db (dH s pv fv mb) w1 (popF ltN fh nf) nf (fun i => i = db ∨ fv.ownBlock = some i) → Fr (fun i => i = db ∨ fv.ownBlock = some i) w w1 → ∃ g cap, pv = .slice (some ⟨g, 0, none⟩) s.np cap ∧ s.np ≤ cap ∧ cap ≤ 9223372036854775807 ∧ ¬ g = db ∧ w1.cell? ⟨db, 1, none⟩ = some pv ∧ db < w1.heap.size ∧ g < w1.heap.size ∧ (∀ i, w1.frozen? ⟨g, i, none⟩ = false) ∧ w1.cell? ⟨g, (fh 0 - 1) * 2, none⟩ = some (.bool (s.pg (fh 0 - 1)).1) ∧ w1.cell? ⟨g, (fh 0 - 1) * 2 + 1, none⟩ = some (.int .u64 (s.pg (fh 0 - 1)).2) ∧
      Hid ((∃ fv', DC ((w1.setCell ⟨g, (fh 0 - 1) * 2, none⟩ (.bool true)).setCell ⟨g, (fh 0 - 1) * 2 + 1, none⟩ (.int .u64 0)) db (s.reuse (fh 0)) c pv fv' mb (popF ltN fh nf) nf ∧ ∀ b, fv'.ownBlock = some b → fv.ownBlock = some b) ∧ Fr (FD db pv fv mb) w ((w1.setCell ⟨g, (fh 0 - 1) * 2, none⟩ (.bool true)).setCell ⟨g, (fh 0 - 1) * 2 + 1, none⟩ (.int .u64 0)))) := by
    intro w1 hr f1
    obtain ⟨r1, r2, r3, r4⟩ := h.reused (fun i => Iff.rfl) hr f1
    obtain ⟨g, cap, p1, p2, p3, p4, p5, p6⟩ := r3.at (by omega)
    refine ⟨g, cap, p1, p2, by unfold maxLen at p3; omega, (h.n1 g (by rw [p1]; rfl)).1, r1, r2, p4, p5, by rw [p6 _ (by omega), pgF_0], by rw [p6 _ (by omega), pgF_1], ?_⟩
    subst p1
    have hs := (r3.set (i := (fh 0 - 1) * 2) (by omega) (.bool true)).set (i := (fh 0 - 1) * 2 + 1) (by omega) (.int .u64 (0 : Nat))
    rw [pgF_set] at hs
    exact r4.out _ hs ((((Fr.refl (fun i => i = g) w1).setCell (p := ⟨g, (fh 0 - 1) * 2, none⟩) (.inl rfl) _).setCell (p := ⟨g, (fh 0 - 1) * 2 + 1, none⟩) (.inl rfl) _).mono (fun i q => by rw [q]; rfl))
  obtain ⟨fa, fc, rfl, _, _⟩ := h.fo.shape
  clear h l3 l4
  unfold encU at HP
  have hta : ∀ t : Int, ∀ W : World, (Instr.typeAssert (.iface 44 (.int .u32 t)) 20 44 false).run Tryz.prog W = .ok (.int .u32 t) W := fun t W => by kernel_rfl
  obtain ⟨k, hk⟩ : ∃ k, fh 0 = k + 1 := ⟨fh 0 - 1, by omega⟩
  rw [hk] at K HP l1 l2 ⊢
  rw [show k + 1 - 1 = k from by omega] at K
  have hks : ((k + 1 : Nat) : Int) - 1 = (k : Int) := by omega
  have hkn : k < s.np := by omega
  have hta2 := hta ((k : Int) + 1)
  have hta3 := hta ((k + 1 : Nat) : Int)
  clear hta hk
  have hnf : 0 < ((nf + 1 : Nat) : Int) := by omega
  go_enter Tryz.func47, Tryz.ntmps47
  go_wp2_with fail
  refine HP.out.mono ?_
  rintro e w1 ⟨rfl, hr, f1⟩
  obtain ⟨g, cap, hpv, e1, e2, e3, e4, e5, e6, e7, e8, e9, KK⟩ := K.out w1 hr f1
  have HPV := Lib.hid hpv
  rw [hpv] at e4
  have f70 := e7 (k * 2)
  have f71 := e7 (k * 2 + 1)
  clear hr f1 hpv K e7
  go_wp2
  go_returns
  exact ⟨rfl, KK.out⟩
end
end Go.Proofs.YtmpjnphnljakiaaGreatDoor
namespace Go.Proofs.YtmpjnphnljakiaaGreatDoor
open Go.RowKit Go.Maps
set_option linter.unusedVariables false

/-- The ids of the pages among the first k. -/
def idsL (pg : Nat → Bool × Nat) (k : Nat) : List Nat := ((List.range k).filter fun i => (pg i).1).map (· + 1)
theorem idsL_zero (pg : Nat → Bool × Nat) : idsL pg 0 = [] := rfl
theorem idsL_succ (pg : Nat → Bool × Nat) (k : Nat) : idsL pg (k + 1) = if (pg k).1 = true then idsL pg k ++ [k + 1] else idsL pg k := by
  unfold idsL
  rw [List.range_succ, List.filter_append, List.map_append]
  by_cases h : (pg k).1 = true
  · simp [h]
  · simp [h]
theorem idsL_len (pg : Nat → Bool × Nat) (k : Nat) : (idsL pg k).length ≤ k := by
  unfold idsL
  rw [List.length_map]
  exact Nat.le_trans (List.length_filter_le _ _) (by rw [List.length_range]; exact Nat.le_refl _)
theorem OwK.made {w w0 : World} (hf : w0.heap.size ≤ w.heap.size) (k : IntKind) (e : TypeId) (cs : Array Value) (g c : Nat) (hg : g = w.heap.size) (hs : cs.size = c) (hm : c ≤ maxLen) : OwK k w0.heap.size e (w.alloc (.cells cs e)) (.slice (some ⟨g, 0, none⟩) 0 c) [] := by
  subst hg
  exact ⟨rfl, .inr ⟨w.heap.size, c, cs, rfl, hf, heap_alloc_new _ _ _ rfl, Nat.zero_le _, hm, by rw [hs, Nat.mul_one], by simp⟩⟩
theorem OwK.fr {k : IntKind} {base : Nat} {e : TypeId} {w w' : World} {v : Value} {l : List Nat} (h : OwK k base e w v l) (f : Fr NoF w w') : OwK k base e w' v l := own_keep h f (fun _ _ q => q)
section
variable {w w' : World} {db c mb nf : Nat} {s : DS} {pv fv : Value} {fh : Nat → Nat} {F : Nat → Prop}
set_option maxHeartbeats 2000000 in
theorem dk_pages (h : DC w db s c pv fv mb fh nf) : Calls Tryz.prog 17 #[.pointer (some ⟨db, 0, none⟩)] w fun e w' => ∃ v, e = .returned v ∧ OwK .u32 w.heap.size 44 w' v (idsL s.pg s.np) ∧ Fr NoF w w' := by
  have c1 : w.cell? ⟨db, 1, none⟩ = some pv := h.ce 1 (by omega)
  have c2 : w.cell? ⟨db, 2, none⟩ = some fv := h.ce 2 (by omega)
  have lb := h.hd.lt
  have hnn := h.nn
  have hnr := h.r2
  have hrr := h.r1
  obtain ⟨fa, fc, rfl, _, _⟩ := h.fo.shape
  obtain ⟨va, vc, rfl, v1, v2⟩ := h.po.shape
  unfold maxLen at v2
  obtain ⟨i0, hi0, hz0, hz1, hz2⟩ := info_parts' (P := Tryz.prog) (e := 44) (z := .int .u32 0) (s := 1) (b := 4) (by kernel_rfl)
  have mk1 : ∀ w : World, (Instr.makeSlice 49 (.int .i64 0) (.int .i64 ((s.np : Int) - (nf : Int)))).run Tryz.prog w =
      .ok (.slice (some ⟨w.heap.size, 0, none⟩) 0 (s.np - nf)) (w.alloc (.cells (madeCells #[.int .u32 0] (s.np - nf)) 44)) := by
    intro w
    have := run_make (P := Tryz.prog) w 49 44 i0 _ Tryz.underlying49 hi0 hz0 .i64 .i64 (0 : Int) ((s.np : Int) - (nf : Int)) (by omega) (by omega) (by rw [hz2]; omega) (by omega)
    rw [show ((s.np : Int) - (nf : Int)).toNat = s.np - nf from by omega, hz1, Nat.mul_one] at this
    exact this
  have hwr : IntKind.i64.wrap ((s.np : Int) - (nf : Int)) = (s.np : Int) - (nf : Int) := IntWalk.i64_in _ (by omega)
  have HP := Lib.hid h.po
  have HMD : Hid (∀ d, OwK .u32 w.heap.size 44 ((w.alloc (.cells (madeCells #[.int .u32 0] (s.np - nf)) 44)).drewN d) (.slice (some ⟨w.heap.size, 0, none⟩) 0 (s.np - nf)) (idsL s.pg 0)) := by
    intro d
    exact (OwK.made (Nat.le_refl _) .u32 44 _ _ _ rfl (by simp [size_madeCells]) (by unfold maxLen; omega)).fr ((Fr.refl NoF _).drewN d)
  clear h hi0 hz0 hz1 hz2
  go_enter Tryz.func17, Tryz.ntmps17
  go_wp2
  go_region
  go_wp2
  go_loopw [3, 25] (fun o i wr => ∃ k : Nat, k ≤ s.np ∧ i = .int .i64 k ∧ OwK .u32 w.heap.size 44 wr o (idsL s.pg k) ∧ Fr NoF w wr) (fun _ i _ => s.np - (intOf i).toNat)
  case atStart =>
    refine ⟨0, Nat.zero_le _, rfl, ?_, ((Fr.refl NoF w).alloc _).drew⟩
    exact (OwK.made (Nat.le_refl _) .u32 44 _ _ _ rfl (by simp [size_madeCells]) (by unfold maxLen; omega)).fr ((Fr.refl NoF _).drew)
  case round =>
    obtain ⟨k, hk, rfl, ho, hf⟩ := hrel
    have HO := Lib.hid ho
    have HF := Lib.hid hf
    have hsz := hf.size
    by_cases hlt : k < s.np
    · obtain ⟨g, cap, ev, q1, q2, q3, q4, q5⟩ := (HP.out.fr0 hf).at (by omega)
      simp only [Value.slice.injEq] at ev
      obtain ⟨rfl, _, rfl⟩ := ev
      have cy0 := q5 (k * 2) (by omega)
      have cy1 := q5 (k * 2 + 1) (by omega)
      rw [pgF_0] at cy0
      rw [pgF_1] at cy1
      have hS := idsL_succ s.pg k
      have hL := idsL_len s.pg k
      have hcw : IntKind.u32.wrap ((k : Int) + 1) = (k : Int) + 1 := IntWalk.u32_in _ (by omega)
      clear q5
      cases hb : (s.pg k).1 with
      | false =>
        rw [hb] at cy0 hS
        have HS := Lib.hid hS
        clear hS hb ho hf hL
        generalize (s.pg k).2 = val at *
        go_wp2
        go_roundw
        case rel => exact ⟨k + 1, by omega, by go_num, by rw [HS.out, if_neg (by simp)]; exact HO.out.fr (by repeat (first | exact Fr.refl NoF _ | apply Fr.alloc | (refine Fr.setCell ?_ (.inr (by simp)) _))), HF.out.trans (G := NoF) (by repeat (first | exact Fr.refl NoF _ | apply Fr.alloc | (refine Fr.setCell ?_ (.inr (by simp)) _))) (fun _ q => q.elim)⟩
        case measure => simp [intOf]; omega
      | true =>
        rw [hb] at cy0 hS
        rw [if_pos rfl] at hS
        have HS := Lib.hid hS
        clear hS hb ho hf
        generalize (s.pg k).2 = val at *
        have f2 : Fr NoF wr ((wr.alloc (.cells #[.bool true, .int .u64 (val : Nat)] 85)).alloc (.cells #[.int .u32 ((k : Int) + 1)] 44)) := ((Fr.refl NoF wr).alloc _).alloc _
        have FF2 := Lib.hid f2
        clear f2
        go_wp2_with (at_builtin; go_must (refine appLB (base := w.heap.size) EIu rfl _ _ rfl (by rfl) (by rfl) (by simp; omega) (own_keep HO.out FF2.out (fun _ _ q => q)) (SlC.ofOwn (own_new (w0 := wr) (by simp) #[.int .u32 ((k : Int) + 1)] 44 1 1 _ (by simp) rfl (by unfold maxLen; omega)) (by simp [Value.oneCell'])) (by unfold maxLen; omega) (by omega) ?_); intro v' w2 hown' hf' _; have HF' := Lib.hid hf'; have HO' := Lib.hid hown'; clear cy0 cy1 hf' hown')
        go_roundw
        case rel =>
          refine ⟨k + 1, by omega, by go_num, ?_, ?_⟩
          · rw [HS.out]; exact OwK.snoc HO'.out
          · refine (HF.out.trans FF2.out (fun _ q => q.elim)).trans HF'.out (fun i hi => .inr ?_)
            exact HO.out.base i hi
        case measure => simp [intOf]; omega
    · obtain rfl : k = s.np := by omega
      clear ho hf
      go_wp2
      go_returns
      exact ⟨_, rfl, HO.out, HF.out⟩
end
end Go.Proofs.YtmpjnphnljakiaaGreatDoor
namespace Go.Proofs.YtmpjnphnljakiaaGreatDoor
open Go.RowKit Go.Maps
set_option linter.unusedVariables false
set_option maxRecDepth 100000

theorem own_zero {w : World} {base e size n : Nat} {v : Value} {xs : List Value} (h : w.ownsRow base e size v n xs) : w.ownsRow 0 e size v n xs := by
  obtain ⟨h1, h2⟩ := h
  refine ⟨h1, h2.imp id ?_⟩
  rintro ⟨g, cap, cur, e1, hg, r⟩
  exact ⟨g, cap, cur, e1, Nat.zero_le _, r⟩
theorem own_base {w : World} {base e size n : Nat} {v : Value} {xs : List Value} (h : w.ownsRow base e size v n xs) : ∀ b, v.ownBlock = some b → base ≤ b := ownBlock_own h
section
variable {w w' : World} {n : Nat} {v : Value}
end
def DS.copy (s : DS) : DS := ⟨s.room, s.np, s.pg, fun _ => 0, false, 0, 0, 0⟩
section
variable {w w' : World} {db c mb nf : Nat} {s : DS} {pv fv : Value} {fh : Nat → Nat} {F : Nat → Prop}
theorem DC.copied (h : DC w db s c pv fv mb fh nf) {wz : World} {pv' fv' : Value} {mb' : Nat} (hp : SlF wz 85 2 pv' s.np (pgF s.pg)) (hf : SlF wz 44 1 fv' nf (uN fh)) (hm : MpK Tryz.prog 122 3 .i64 okA klA wz mb' 0 (fun _ => none)) (n1 : ∀ b, pv'.ownBlock = some b → ¬ b = mb' ∧ ¬ fv'.ownBlock = some b ∧ w.heap.size ≤ b) (n2 : ∀ b, fv'.ownBlock = some b → ¬ b = mb' ∧ w.heap.size ≤ b) (n3 : w.heap.size ≤ mb') (f : Fr NoF w wz) {db' : Nat} (e : db' = wz.heap.size) :
    DC (wz.alloc (.cells #[.int .i64 s.room, pv', fv', .map (some mb'), .bool false, .int .i64 0, .int .i64 0, .int .i64 0] 52)) db' s.copy 0 pv' fv' mb' fh nf ∧ (∀ i, FD db' pv' fv' mb' i → w.heap.size ≤ i) ∧ Fr NoF w (wz.alloc (.cells #[.int .i64 s.room, pv', fv', .map (some mb'), .bool false, .int .i64 0, .int .i64 0, .int .i64 0] 52)) := by
  subst e
  have fa : Fr NoF wz (wz.alloc (.cells #[.int .i64 s.room, pv', fv', .map (some mb'), .bool false, .int .i64 0, .int .i64 0, .int .i64 0] 52)) := (Fr.refl NoF wz).alloc _
  have lm := hm.lt
  have sz := f.size
  have hm' : MpK Tryz.prog 122 3 .i64 okA klA wz mb' 0 (flM (fun _ => 0)) := by rw [flM_zero]; exact hm
  refine ⟨⟨⟨_, _, heap_alloc_new _ _ _ rfl, rfl, fun i hi => ?_⟩, hp.fr0 fa, hf.fr0 fa, hm'.fr fa (fun q => q), fun b q => ⟨by have := hp.lt b q; omega, (n1 b q).1, (n1 b q).2.1⟩, fun b q => ⟨by have := hf.lt b q; omega, (n2 b q).1⟩, by omega, h.r1, h.r2, h.hp, h.inj, h.nn, h.fm, by omega, ⟨by show isI63 0; unfold isI63; omega, by show (0 : Nat) < _; omega, by show (0 : Nat) < _; omega⟩, fun a => by show isI63 0; unfold isI63; omega⟩, fun i q => ?_, f.alloc _⟩
  · match i, hi with
    | 0, _ => rfl
    | 1, _ => rfl
    | 2, _ => rfl
    | 3, _ => rfl
    | 4, _ => rfl
    | 5, _ => rfl
    | 6, _ => rfl
    | 7, _ => rfl
  · rcases q with q | q | q | q
    · rw [q]; exact sz
    · rw [q]; exact n3
    · exact (n1 i q).2.2
    · exact (n2 i q).2
end
end Go.Proofs.YtmpjnphnljakiaaGreatDoor
namespace Go.Proofs.YtmpjnphnljakiaaGreatDoor
open Go.RowKit Go.Maps
set_option linter.unusedVariables false
section
variable {w w' : World} {db c mb nf : Nat} {s : DS} {pv fv : Value} {fh : Nat → Nat} {F : Nat → Prop}
end
end Go.Proofs.YtmpjnphnljakiaaGreatDoor
namespace Go.Proofs.YtmpjnphnljakiaaGreatDoor
open Go.RowKit
set_option linter.unusedVariables false

/-- Pages as cells. -/
def plC (l : List (Nat × Nat)) : List Value := l.flatMap fun p => [.int .u32 (p.1 : Nat), .int .u64 (p.2 : Nat)]
theorem plC_len (l : List (Nat × Nat)) : (plC l).length = l.length * 2 := by
  induction l with
  | nil => rfl
  | cons a l ih => simp only [plC, List.flatMap_cons, List.length_append, List.length_cons, List.length_nil]; unfold plC at ih; omega
theorem plC_app (a b : List (Nat × Nat)) : plC (a ++ b) = plC a ++ plC b := by unfold plC; rw [List.flatMap_append]
theorem plC_at : ∀ (l : List (Nat × Nat)) {i : Nat} (h : i < l.length), (plC l)[i * 2]? = some (.int .u32 (l[i].1 : Nat)) ∧ (plC l)[i * 2 + 1]? = some (.int .u64 (l[i].2 : Nat))
  | [], i, h => by simp at h
  | a :: l, 0, h => by simp [plC]
  | a :: l, i + 1, h => by
    have ih := plC_at l (i := i) (by simpa using h)
    have e : plC (a :: l) = [.int .u32 (a.1 : Nat), .int .u64 (a.2 : Nat)] ++ plC l := rfl
    have h0 : ∀ j, ([Value.int .u32 (a.1 : Nat), .int .u64 (a.2 : Nat)] ++ plC l)[j + 2]? = (plC l)[j]? := fun j => by simp
    rw [e, show (i + 1) * 2 = i * 2 + 2 from by omega, h0, show i * 2 + 2 + 1 = (i * 2 + 1) + 2 from by omega, h0]
    exact ih
theorem plC_one (l : List (Nat × Nat)) : ∀ u ∈ plC l, u.oneCell' = true := by
  intro u hu
  obtain ⟨p, _, h⟩ := List.mem_flatMap.1 hu
  simp at h
  rcases h with rfl | rfl <;> rfl
theorem plC_take (l : List (Nat × Nat)) (k : Nat) : (plC l).take (k * 2) = plC (l.take k) := by
  rcases Nat.le_total k l.length with h | h
  · have e : plC l = plC (l.take k) ++ plC (l.drop k) := by rw [← plC_app, List.take_append_drop]
    rw [e, List.take_left' (by rw [plC_len, List.length_take]; omega)]
  · rw [List.take_of_length_le (by rw [plC_len]; omega), List.take_of_length_le h]
theorem plC_drop (l : List (Nat × Nat)) (k : Nat) : (plC l).drop (k * 2) = plC (l.drop k) := by
  rcases Nat.le_total k l.length with h | h
  · have e : plC l = plC (l.take k) ++ plC (l.drop k) := by rw [← plC_app, List.take_append_drop]
    rw [e, List.drop_left' (by rw [plC_len, List.length_take]; omega)]
  · rw [List.drop_of_length_le (by rw [plC_len]; omega), List.drop_of_length_le h]; rfl
/-- A slice of pages. -/
def SlP (w : World) (v : Value) (l : List (Nat × Nat)) : Prop := SlC w 2 v l.length (plC l)
/-- Where an id is. -/
def atP (l : List (Nat × Nat)) (id : Nat) : Option Nat := l.findIdx? (fun p => p.1 == id)
def atZ : Option Nat → Int
  | none => -1
  | some k => k
section
variable {w w' : World} {v : Value} {l : List (Nat × Nat)}
theorem SlP.fr (h : SlP w v l) {G : Nat → Prop} (f : Fr G w w') (hG : ∀ b, v.ownBlock = some b → ¬ G b) : SlP w' v l := SlC.fr h f hG
theorem SlP.fr0 (h : SlP w v l) (f : Fr NoF w w') : SlP w' v l := SlC.keep h f
theorem SlP.shape (h : SlP w v l) : ∃ a c, v = .slice a l.length c ∧ l.length ≤ c ∧ c ≤ maxLen := SlC.shape h
theorem SlP.at (h : SlP w v l) {i : Nat} (hi : i < l.length) : ∃ b off c, v = .slice (some ⟨b, off, none⟩) l.length c ∧ l.length ≤ c ∧ c ≤ maxLen ∧ b < w.heap.size ∧ w.cell? ⟨b, off + i * 2, none⟩ = some (.int .u32 (l[i].1 : Nat)) ∧ w.cell? ⟨b, off + (i * 2 + 1), none⟩ = some (.int .u64 (l[i].2 : Nat)) := by
  obtain ⟨b, off, c, e, h1, h2, h3, h4⟩ := SlC.at h hi (by omega)
  exact ⟨b, off, c, e, h1, h2, h3, h4 _ _ (plC_at l hi).1, h4 _ _ (plC_at l hi).2⟩
theorem atP_none {l : List (Nat × Nat)} {id : Nat} (h : ∀ k (hk : k < l.length), ¬ l[k].1 = id) : atP l id = none := by
  unfold atP
  rw [List.findIdx?_eq_none_iff]
  intro p hp
  obtain ⟨k, hk, rfl⟩ := List.mem_iff_getElem.1 hp
  simpa using h k hk
theorem atP_some {l : List (Nat × Nat)} {id k : Nat} (hk : k < l.length) (h : l[k].1 = id) (hn : ∀ j (hj : j < k), ¬ (l[j]'(by omega)).1 = id) : atP l id = some k := by
  unfold atP
  rw [List.findIdx?_eq_some_iff_getElem]
  exact ⟨hk, by simpa using h, fun j hj => by simpa using hn j hj⟩
end
end Go.Proofs.YtmpjnphnljakiaaGreatDoor
namespace Go.Proofs.YtmpjnphnljakiaaGreatDoor
open Go.RowKit
set_option linter.unusedVariables false

def plF (l : List (Nat × Nat)) (i : Nat) : Value := ((plC l)[i]?).getD (.bool false)
theorem plF_list (l : List (Nat × Nat)) : (List.range (l.length * 2)).map (plF l) = plC l := by
  apply List.ext_getElem?
  intro j
  by_cases h : j < l.length * 2
  · have h2 : j < (plC l).length := by rw [plC_len]; exact h
    simp [plF, h, h2]
  · rw [List.getElem?_eq_none (by simp; omega), List.getElem?_eq_none (by rw [plC_len]; omega)]
theorem plF_at (l : List (Nat × Nat)) {k : Nat} (h : k < l.length) : plF l (k * 2) = .int .u32 (l[k].1 : Nat) ∧ plF l (k * 2 + 1) = .int .u64 (l[k].2 : Nat) := by
  obtain ⟨h1, h2⟩ := plC_at l h
  unfold plF
  rw [h1, h2]
  exact ⟨rfl, rfl⟩
theorem plF_set (l : List (Nat × Nat)) {k : Nat} (h : k < l.length) (x : Nat) : ∀ i, i < l.length * 2 → upd (plF l) (k * 2 + 1) (.int .u64 (x : Nat)) i = plF (l.set k (l[k].1, x)) i := by
  intro i hi
  have hl : (l.set k (l[k].1, x)).length = l.length := List.length_set
  have hm : i / 2 < l.length := by omega
  by_cases e : i = k * 2 + 1
  · subst e
    rw [upd_same, (plF_at (l.set k (l[k].1, x)) (k := k) (by omega)).2]
    simp
  · rw [upd_other _ _ e]
    rcases Nat.mod_two_eq_zero_or_one i with q | q
    · have ei : i = i / 2 * 2 := by omega
      rw [ei, (plF_at l hm).1, (plF_at (l.set k (l[k].1, x)) (k := i / 2) (by omega)).1]
      by_cases e2 : k = i / 2
      · subst e2; simp
      · simp [List.getElem_set_ne e2]
    · have ei : i = i / 2 * 2 + 1 := by omega
      have e2 : ¬ k = i / 2 := by omega
      rw [ei, (plF_at l hm).2, (plF_at (l.set k (l[k].1, x)) (k := i / 2) (by omega)).2]
      simp [List.getElem_set_ne e2]
theorem atP_is {l : List (Nat × Nat)} {id k : Nat} (h : atP l id = some k) : ∃ hk : k < l.length, l[k].1 = id := by
  unfold atP at h
  rw [List.findIdx?_eq_some_iff_getElem] at h
  obtain ⟨hk, h1, _⟩ := h
  exact ⟨hk, by simpa using h1⟩
def isU64 (x : Nat) : Prop := x < 18446744073709551616
/-- One failure fewer. -/
def failsP (l : List (Nat × Nat)) (id : Nat) : List (Nat × Nat) × Bool :=
  match atP l id with
  | none => (l, false)
  | some k => if (l.getD k (0, 0)).2 = 0 then (l, false) else (l.set k ((l.getD k (0, 0)).1, (l.getD k (0, 0)).2 - 1), true)
section
variable {w w' : World} {v : Value} {l : List (Nat × Nat)}
theorem SlF.page {e : TypeId} {n : Nat} (h : SlF w e 2 v l.length (plF l)) : SlP w v l := by
  have h1 : w.ownsRow 0 e 2 v l.length (plC l) := by have := h; unfold SlF at this; rw [plF_list] at this; exact this
  exact SlC.ofOwn h1 (plC_one l)
end
end Go.Proofs.YtmpjnphnljakiaaGreatDoor

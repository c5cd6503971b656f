/-
  model.Call: what a pool that shows a map answers, by kinds.
  Front: a client's call of the pool.
-/
import Derived.Test.YtmpjnphnljakiaaGreatDoorK22
import Derived.Test.YtmpjnphnljakiaaGreatDoorK07
import Derived.Handy
import Derived.Deep.Cut
import Derived.Deep.RegionHeld3
namespace Go.Proofs.YtmpjnphnljakiaaGreatDoor
open Go.RowKit Go.Maps
set_option linter.unusedVariables false
set_option linter.unusedSimpArgs false
set_option linter.unusedSectionVars false
set_option maxRecDepth 100000
/-- What the map answers, and what becomes of it. -/
noncomputable def AM.call (n : Nat) (M : AM) (o : OpF) : AnF × AM :=
  if o.k = 0 then (⟨(M.newPage n).1.2, (M.newPage n).1.1, 0⟩, (M.newPage n).2)
  else if o.k = 1 then (⟨(M.fetch n o.id).1, 0, 0⟩, (M.fetch n o.id).2)
  else if o.k = 2 then (⟨(M.unpin o.id).1, 0, 0⟩, (M.unpin o.id).2)
  else if o.k = 3 then (⟨(M.read o.id).2, 0, (M.read o.id).1⟩, M)
  else if o.k = 4 then (⟨(M.write o.id o.v).1, 0, 0⟩, (M.write o.id o.v).2)
  else if o.k = 5 then (⟨M.flush o.id, 0, 0⟩, M)
  else if o.k = 6 then (⟨0, 0, 0⟩, M)
  else if o.k = 7 then (⟨(M.delete o.id).1, 0, 0⟩, (M.delete o.id).2)
  else (⟨1, 0, 0⟩, M)
def zAn : Nat → Value := fun i => match i with | 0 => .int .i64 0 | 1 => .int .u32 0 | _ => .int .u64 0
theorem blkAn (w : World) (x y z : Value) {t : TypeId} : Blk (w.alloc (.cells #[x, y, z] t)) w.heap.size 3 (fun i => match i with | 0 => x | 1 => y | _ => z) := Blk.new _ _ _ 3 _ _ rfl rfl (fun i hi => by
  match i, hi with
  | 0, _ | 1, _ | 2, _ => rfl)
section
variable {p : PP} {q : Bool} {M : AM} {m : Nat} {w : World} {F : Nat → Prop} {o : OpF}
/-- Behind the pool's own call: the two blocks of the answer, and what is written into them. -/
theorem call_end {M' : AM} {m' : Nat} {w0 w1 : World} (h0 : w0.heap.size = w.heap.size + 3) (f0 : Fr NoF w w0) (hl : ∀ i, F i → i < w.heap.size) (ht : 0 < w.heap.size) (b1 : Blk w0 (w.heap.size + 1) 3 zAn) (b2 : Blk w0 (w.heap.size + 1 + 1) 3 zAn) (h : Led (AnyP p q M' m') F w0 w1) :
    Blk w1 (w.heap.size + 1) 3 zAn ∧ Blk w1 (w.heap.size + 1 + 1) 3 zAn ∧ ∀ wf, Fr (fun j => j = w.heap.size + 1 ∨ j = w.heap.size + 1 + 1) w1 wf → Led (AnyP p q M' m') F w wf := by
  obtain ⟨F', h1, f1, hF⟩ := h
  refine ⟨b1.fr f1 (fun k => by have := hl _ k; omega), b2.fr f1 (fun k => by have := hl _ k; omega), fun wf g => ⟨F', h1.fro g (fun i k => ?_) (by omega), (Fr.trans (f0.none.trans f1 (fun i k => .inl k)) g (fun i k => .inr (by omega))), fun i k => ?_⟩⟩
  · rcases hF i k with c | c
    · have := hl i c; omega
    · omega
  · rcases hF i k with c | c
    · exact .inl c
    · exact .inr (by omega)
set_option maxHeartbeats 4000000 in
theorem call_new (h : AnyP p q M m w F) (hm : m < 59000) (hn : p.n ≤ 64) (ho : o.ok) (ht : 0 < w.heap.size) (hk : o.k = 0) :
    Calls Tryz.prog 32 #[p.ptr, o.val] w fun e w' => e = .returned (⟨(M.newPage p.n).1.2, (M.newPage p.n).1.1, 0⟩ : AnF).val ∧ Led (AnyP p q (M.newPage p.n).2 (m + 100)) F w w' := by
  obtain ⟨k, pg, v⟩ := o
  have f0 : Fr NoF w (((w.alloc (.cells #[.int .i64 k, .int .u32 (pg : Nat), .int .u64 (v : Nat)] 73)).alloc (.cells #[.int .i64 0, .int .u32 0, .int .u64 0] 75)).alloc (.cells #[.int .i64 0, .int .u32 0, .int .u64 0] 75)) := (((Fr.refl NoF w).alloc _).alloc _).alloc _
  have b0 := (((blkAn w (.int .i64 k) (.int .u32 (pg : Nat)) (.int .u64 (v : Nat)) (t := 73)).alloc (.cells #[.int .i64 0, .int .u32 0, .int .u64 0] 75)).alloc (.cells #[.int .i64 0, .int .u32 0, .int .u64 0] 75))
  have b1 := ((blkAn (w.alloc (.cells #[.int .i64 k, .int .u32 (pg : Nat), .int .u64 (v : Nat)] 73)) (.int .i64 0) (.int .u32 0) (.int .u64 0) (t := 75)).alloc (.cells #[.int .i64 0, .int .u32 0, .int .u64 0] 75))
  have b2 := (blkAn ((w.alloc (.cells #[.int .i64 k, .int .u32 (pg : Nat), .int .u64 (v : Nat)] 73)).alloc (.cells #[.int .i64 0, .int .u32 0, .int .u64 0] 75)) (.int .i64 0) (.int .u32 0) (.int .u64 0) (t := 75))
  rw [World.size_alloc] at b1
  rw [World.size_alloc, World.size_alloc] at b2
  have hs : (((w.alloc (.cells #[.int .i64 k, .int .u32 (pg : Nat), .int .u64 (v : Nat)] 73)).alloc (.cells #[.int .i64 0, .int .u32 0, .int .u64 0] 75)).alloc (.cells #[.int .i64 0, .int .u32 0, .int .u64 0] 75)).heap.size = w.heap.size + 3 := by rw [World.size_alloc, World.size_alloc, World.size_alloc]
  have hl := h.lt
  have hA := h.fr0 f0
  unfold OpF.val
  simp only at hk
  have KE := Lib.hid (fun (M' : AM) (m' : Nat) (w1 : World) (h1 : Led (AnyP p q M' m') F _ w1) => call_end hs f0 hl ht b1 b2 h1)
  have HA := Lib.hid hA
  have B0 := Lib.hid b0
  have hid0 := ho.1
  have hv0 := ho.2.1
  clear h b0 b1 b2 hA ho
  go_enter Tryz.func32, Tryz.ntmps32
  subst hk
  go_wp2_with fail
  refine (HA.out.np (by omega)).mono ?_
  rintro e w1 ⟨rfl, hl1⟩
  obtain ⟨c1, c2, c3⟩ := KE.out _ _ w1 (hl1.mono (fun F' h' => h'.more (k := m + 100) (by omega)))
  have HR := Lib.hid (((((c1.other (a := ⟨w.heap.size + 1 + 1, 1, none⟩) (by simp) (.int .u32 ((M.newPage p.n).1.1 : Nat))).other (a := ⟨w.heap.size + 1 + 1, 0, none⟩) (by simp) (.int .i64 ((M.newPage p.n).1.2 : Nat))).set 0 (.int .i64 ((M.newPage p.n).1.2 : Nat))).set 1 (.int .u32 ((M.newPage p.n).1.1 : Nat))).set 2 (.int .u64 0))
  have HL := Lib.hid (c3 (((((w1.setCell ⟨w.heap.size + 1 + 1, 1, none⟩ (.int .u32 ((M.newPage p.n).1.1 : Nat))).setCell ⟨w.heap.size + 1 + 1, 0, none⟩ (.int .i64 ((M.newPage p.n).1.2 : Nat))).setCell ⟨w.heap.size + 1, 0, none⟩ (.int .i64 ((M.newPage p.n).1.2 : Nat))).setCell ⟨w.heap.size + 1, 1, none⟩ (.int .u32 ((M.newPage p.n).1.1 : Nat))).setCell ⟨w.heap.size + 1, 2, none⟩ (.int .u64 0)) (by repeat (first | exact Fr.refl _ _ | refine Fr.setCell ?_ (.inl (by first | exact .inl rfl | exact .inr rfl)) _)))
  have a0 := c1.cell (i := 0) (by omega)
  have a1 := c1.cell (i := 1) (by omega)
  have a2 := c1.cell (i := 2) (by omega)
  have d0 := c2.cell (i := 0) (by omega)
  have d1 := c2.cell (i := 1) (by omega)
  have d2 := c2.cell (i := 2) (by omega)
  have z0 := c1.frozen 0
  have z1 := c1.frozen 1
  have z2 := c1.frozen 2
  have y0 := c2.frozen 0
  have y1 := c2.frozen 1
  have y2 := c2.frozen 2
  have l1 := c1.lt
  have l2 := c2.lt
  simp only [zAn] at a0 a1 a2 d0 d1 d2
  clear c1 c2 c3 hl1
  go_wp2_with fail
  (try simp only [Exit.inBlock, Exit.then])
  refine bodyPost_ret (results_blk Tryz.results32 _ _ HR.out rfl Tryz.underlying75 rfl (by kernel_rfl)) rfl ?_
  exact ⟨rfl, HL.out⟩
set_option maxHeartbeats 4000000 in
theorem call_fetch (h : AnyP p q M m w F) (hm : m < 59000) (hn : p.n ≤ 64) (ho : o.ok) (ht : 0 < w.heap.size) (hk : o.k = 1) :
    Calls Tryz.prog 32 #[p.ptr, o.val] w fun e w' => e = .returned (⟨(M.fetch p.n o.id).1, 0, 0⟩ : AnF).val ∧ Led (AnyP p q (M.fetch p.n o.id).2 (m + 100)) F w w' := by
  obtain ⟨k, pg, v⟩ := o
  have f0 : Fr NoF w (((w.alloc (.cells #[.int .i64 k, .int .u32 (pg : Nat), .int .u64 (v : Nat)] 73)).alloc (.cells #[.int .i64 0, .int .u32 0, .int .u64 0] 75)).alloc (.cells #[.int .i64 0, .int .u32 0, .int .u64 0] 75)) := (((Fr.refl NoF w).alloc _).alloc _).alloc _
  have b0 := (((blkAn w (.int .i64 k) (.int .u32 (pg : Nat)) (.int .u64 (v : Nat)) (t := 73)).alloc (.cells #[.int .i64 0, .int .u32 0, .int .u64 0] 75)).alloc (.cells #[.int .i64 0, .int .u32 0, .int .u64 0] 75))
  have b1 := ((blkAn (w.alloc (.cells #[.int .i64 k, .int .u32 (pg : Nat), .int .u64 (v : Nat)] 73)) (.int .i64 0) (.int .u32 0) (.int .u64 0) (t := 75)).alloc (.cells #[.int .i64 0, .int .u32 0, .int .u64 0] 75))
  have b2 := (blkAn ((w.alloc (.cells #[.int .i64 k, .int .u32 (pg : Nat), .int .u64 (v : Nat)] 73)).alloc (.cells #[.int .i64 0, .int .u32 0, .int .u64 0] 75)) (.int .i64 0) (.int .u32 0) (.int .u64 0) (t := 75))
  rw [World.size_alloc] at b1
  rw [World.size_alloc, World.size_alloc] at b2
  have hs : (((w.alloc (.cells #[.int .i64 k, .int .u32 (pg : Nat), .int .u64 (v : Nat)] 73)).alloc (.cells #[.int .i64 0, .int .u32 0, .int .u64 0] 75)).alloc (.cells #[.int .i64 0, .int .u32 0, .int .u64 0] 75)).heap.size = w.heap.size + 3 := by rw [World.size_alloc, World.size_alloc, World.size_alloc]
  have hl := h.lt
  have hA := h.fr0 f0
  unfold OpF.val
  simp only at hk
  have KE := Lib.hid (fun (M' : AM) (m' : Nat) (w1 : World) (h1 : Led (AnyP p q M' m') F _ w1) => call_end hs f0 hl ht b1 b2 h1)
  have HA := Lib.hid hA
  have B0 := Lib.hid b0
  have hid0 := ho.1
  have hv0 := ho.2.1
  clear h b0 b1 b2 hA ho
  go_enter Tryz.func32, Tryz.ntmps32
  subst hk
  go_wp2_with fail
  refine (HA.out.fe (by omega) hid0).mono ?_
  rintro e w1 ⟨rfl, hl1⟩
  obtain ⟨c1, c2, c3⟩ := KE.out _ _ w1 (hl1.mono (fun F' h' => h'.more (k := m + 100) (by omega)))
  have HR := Lib.hid ((((c1.other (a := ⟨w.heap.size + 1 + 1, 0, none⟩) (by simp) (.int .i64 ((M.fetch p.n pg).1 : Nat))).set 0 (.int .i64 ((M.fetch p.n pg).1 : Nat))).set 1 (.int .u32 0)).set 2 (.int .u64 0))
  have HL := Lib.hid (c3 ((((w1.setCell ⟨w.heap.size + 1 + 1, 0, none⟩ (.int .i64 ((M.fetch p.n pg).1 : Nat))).setCell ⟨w.heap.size + 1, 0, none⟩ (.int .i64 ((M.fetch p.n pg).1 : Nat))).setCell ⟨w.heap.size + 1, 1, none⟩ (.int .u32 0)).setCell ⟨w.heap.size + 1, 2, none⟩ (.int .u64 0)) (by repeat (first | exact Fr.refl _ _ | refine Fr.setCell ?_ (.inl (by first | exact .inl rfl | exact .inr rfl)) _)))
  have a0 := c1.cell (i := 0) (by omega)
  have a1 := c1.cell (i := 1) (by omega)
  have a2 := c1.cell (i := 2) (by omega)
  have d0 := c2.cell (i := 0) (by omega)
  have d1 := c2.cell (i := 1) (by omega)
  have d2 := c2.cell (i := 2) (by omega)
  have z0 := c1.frozen 0
  have z1 := c1.frozen 1
  have z2 := c1.frozen 2
  have y0 := c2.frozen 0
  have y1 := c2.frozen 1
  have y2 := c2.frozen 2
  have l1 := c1.lt
  have l2 := c2.lt
  simp only [zAn] at a0 a1 a2 d0 d1 d2
  clear c1 c2 c3 hl1
  go_wp2_with fail
  (try simp only [Exit.inBlock, Exit.then])
  refine bodyPost_ret (results_blk Tryz.results32 _ _ HR.out rfl Tryz.underlying75 rfl (by kernel_rfl)) rfl ?_
  exact ⟨rfl, HL.out⟩
set_option maxHeartbeats 4000000 in
theorem call_unpin (h : AnyP p q M m w F) (hm : m < 59000) (hn : p.n ≤ 64) (ho : o.ok) (ht : 0 < w.heap.size) (hk : o.k = 2) :
    Calls Tryz.prog 32 #[p.ptr, o.val] w fun e w' => e = .returned (⟨(M.unpin o.id).1, 0, 0⟩ : AnF).val ∧ Led (AnyP p q (M.unpin o.id).2 (m + 100)) F w w' := by
  obtain ⟨k, pg, v⟩ := o
  have f0 : Fr NoF w (((w.alloc (.cells #[.int .i64 k, .int .u32 (pg : Nat), .int .u64 (v : Nat)] 73)).alloc (.cells #[.int .i64 0, .int .u32 0, .int .u64 0] 75)).alloc (.cells #[.int .i64 0, .int .u32 0, .int .u64 0] 75)) := (((Fr.refl NoF w).alloc _).alloc _).alloc _
  have b0 := (((blkAn w (.int .i64 k) (.int .u32 (pg : Nat)) (.int .u64 (v : Nat)) (t := 73)).alloc (.cells #[.int .i64 0, .int .u32 0, .int .u64 0] 75)).alloc (.cells #[.int .i64 0, .int .u32 0, .int .u64 0] 75))
  have b1 := ((blkAn (w.alloc (.cells #[.int .i64 k, .int .u32 (pg : Nat), .int .u64 (v : Nat)] 73)) (.int .i64 0) (.int .u32 0) (.int .u64 0) (t := 75)).alloc (.cells #[.int .i64 0, .int .u32 0, .int .u64 0] 75))
  have b2 := (blkAn ((w.alloc (.cells #[.int .i64 k, .int .u32 (pg : Nat), .int .u64 (v : Nat)] 73)).alloc (.cells #[.int .i64 0, .int .u32 0, .int .u64 0] 75)) (.int .i64 0) (.int .u32 0) (.int .u64 0) (t := 75))
  rw [World.size_alloc] at b1
  rw [World.size_alloc, World.size_alloc] at b2
  have hs : (((w.alloc (.cells #[.int .i64 k, .int .u32 (pg : Nat), .int .u64 (v : Nat)] 73)).alloc (.cells #[.int .i64 0, .int .u32 0, .int .u64 0] 75)).alloc (.cells #[.int .i64 0, .int .u32 0, .int .u64 0] 75)).heap.size = w.heap.size + 3 := by rw [World.size_alloc, World.size_alloc, World.size_alloc]
  have hl := h.lt
  have hA := h.fr0 f0
  unfold OpF.val
  simp only at hk
  have KE := Lib.hid (fun (M' : AM) (m' : Nat) (w1 : World) (h1 : Led (AnyP p q M' m') F _ w1) => call_end hs f0 hl ht b1 b2 h1)
  have HA := Lib.hid hA
  have B0 := Lib.hid b0
  have hid0 := ho.1
  have hv0 := ho.2.1
  clear h b0 b1 b2 hA ho
  go_enter Tryz.func32, Tryz.ntmps32
  subst hk
  go_wp2_with fail
  refine (HA.out.un (by omega) hid0).mono ?_
  rintro e w1 ⟨rfl, hl1⟩
  obtain ⟨c1, c2, c3⟩ := KE.out _ _ w1 (hl1.mono (fun F' h' => h'.more (k := m + 100) (by omega)))
  have HR := Lib.hid ((((c1.other (a := ⟨w.heap.size + 1 + 1, 0, none⟩) (by simp) (.int .i64 ((M.unpin pg).1 : Nat))).set 0 (.int .i64 ((M.unpin pg).1 : Nat))).set 1 (.int .u32 0)).set 2 (.int .u64 0))
  have HL := Lib.hid (c3 ((((w1.setCell ⟨w.heap.size + 1 + 1, 0, none⟩ (.int .i64 ((M.unpin pg).1 : Nat))).setCell ⟨w.heap.size + 1, 0, none⟩ (.int .i64 ((M.unpin pg).1 : Nat))).setCell ⟨w.heap.size + 1, 1, none⟩ (.int .u32 0)).setCell ⟨w.heap.size + 1, 2, none⟩ (.int .u64 0)) (by repeat (first | exact Fr.refl _ _ | refine Fr.setCell ?_ (.inl (by first | exact .inl rfl | exact .inr rfl)) _)))
  have a0 := c1.cell (i := 0) (by omega)
  have a1 := c1.cell (i := 1) (by omega)
  have a2 := c1.cell (i := 2) (by omega)
  have d0 := c2.cell (i := 0) (by omega)
  have d1 := c2.cell (i := 1) (by omega)
  have d2 := c2.cell (i := 2) (by omega)
  have z0 := c1.frozen 0
  have z1 := c1.frozen 1
  have z2 := c1.frozen 2
  have y0 := c2.frozen 0
  have y1 := c2.frozen 1
  have y2 := c2.frozen 2
  have l1 := c1.lt
  have l2 := c2.lt
  simp only [zAn] at a0 a1 a2 d0 d1 d2
  clear c1 c2 c3 hl1
  go_wp2_with fail
  (try simp only [Exit.inBlock, Exit.then])
  refine bodyPost_ret (results_blk Tryz.results32 _ _ HR.out rfl Tryz.underlying75 rfl (by kernel_rfl)) rfl ?_
  exact ⟨rfl, HL.out⟩
set_option maxHeartbeats 4000000 in
theorem call_read (h : AnyP p q M m w F) (hm : m < 59000) (hn : p.n ≤ 64) (ho : o.ok) (ht : 0 < w.heap.size) (hk : o.k = 3) :
    Calls Tryz.prog 32 #[p.ptr, o.val] w fun e w' => e = .returned (⟨(M.read o.id).2, 0, (M.read o.id).1⟩ : AnF).val ∧ Led (AnyP p q M (m + 100)) F w w' := by
  obtain ⟨k, pg, v⟩ := o
  have f0 : Fr NoF w (((w.alloc (.cells #[.int .i64 k, .int .u32 (pg : Nat), .int .u64 (v : Nat)] 73)).alloc (.cells #[.int .i64 0, .int .u32 0, .int .u64 0] 75)).alloc (.cells #[.int .i64 0, .int .u32 0, .int .u64 0] 75)) := (((Fr.refl NoF w).alloc _).alloc _).alloc _
  have b0 := (((blkAn w (.int .i64 k) (.int .u32 (pg : Nat)) (.int .u64 (v : Nat)) (t := 73)).alloc (.cells #[.int .i64 0, .int .u32 0, .int .u64 0] 75)).alloc (.cells #[.int .i64 0, .int .u32 0, .int .u64 0] 75))
  have b1 := ((blkAn (w.alloc (.cells #[.int .i64 k, .int .u32 (pg : Nat), .int .u64 (v : Nat)] 73)) (.int .i64 0) (.int .u32 0) (.int .u64 0) (t := 75)).alloc (.cells #[.int .i64 0, .int .u32 0, .int .u64 0] 75))
  have b2 := (blkAn ((w.alloc (.cells #[.int .i64 k, .int .u32 (pg : Nat), .int .u64 (v : Nat)] 73)).alloc (.cells #[.int .i64 0, .int .u32 0, .int .u64 0] 75)) (.int .i64 0) (.int .u32 0) (.int .u64 0) (t := 75))
  rw [World.size_alloc] at b1
  rw [World.size_alloc, World.size_alloc] at b2
  have hs : (((w.alloc (.cells #[.int .i64 k, .int .u32 (pg : Nat), .int .u64 (v : Nat)] 73)).alloc (.cells #[.int .i64 0, .int .u32 0, .int .u64 0] 75)).alloc (.cells #[.int .i64 0, .int .u32 0, .int .u64 0] 75)).heap.size = w.heap.size + 3 := by rw [World.size_alloc, World.size_alloc, World.size_alloc]
  have hl := h.lt
  have hA := h.fr0 f0
  unfold OpF.val
  simp only at hk
  have KE := Lib.hid (fun (M' : AM) (m' : Nat) (w1 : World) (h1 : Led (AnyP p q M' m') F _ w1) => call_end hs f0 hl ht b1 b2 h1)
  have HA := Lib.hid hA
  have B0 := Lib.hid b0
  have hid0 := ho.1
  have hv0 := ho.2.1
  clear h b0 b1 b2 hA ho
  go_enter Tryz.func32, Tryz.ntmps32
  subst hk
  go_wp2_with fail
  refine (HA.out.rd hid0).mono ?_
  rintro e w1 ⟨rfl, hw1⟩
  have hl1 : Led (AnyP p q M (m + 100)) F (((w.alloc (.cells #[.int .i64 3, .int .u32 (pg : Nat), .int .u64 (v : Nat)] 73)).alloc (.cells #[.int .i64 0, .int .u32 0, .int .u64 0] 75)).alloc (.cells #[.int .i64 0, .int .u32 0, .int .u64 0] 75)) w1 := by rw [← hw1]; exact Led.refl (HA.out.more (by omega))
  clear hw1
  obtain ⟨c1, c2, c3⟩ := KE.out _ _ w1 (hl1)
  have HR := Lib.hid (((((c1.other (a := ⟨w.heap.size + 1 + 1, 2, none⟩) (by simp) (.int .u64 ((M.read pg).1 : Nat))).other (a := ⟨w.heap.size + 1 + 1, 0, none⟩) (by simp) (.int .i64 ((M.read pg).2 : Nat))).set 0 (.int .i64 ((M.read pg).2 : Nat))).set 1 (.int .u32 0)).set 2 (.int .u64 ((M.read pg).1 : Nat)))
  have HL := Lib.hid (c3 (((((w1.setCell ⟨w.heap.size + 1 + 1, 2, none⟩ (.int .u64 ((M.read pg).1 : Nat))).setCell ⟨w.heap.size + 1 + 1, 0, none⟩ (.int .i64 ((M.read pg).2 : Nat))).setCell ⟨w.heap.size + 1, 0, none⟩ (.int .i64 ((M.read pg).2 : Nat))).setCell ⟨w.heap.size + 1, 1, none⟩ (.int .u32 0)).setCell ⟨w.heap.size + 1, 2, none⟩ (.int .u64 ((M.read pg).1 : Nat))) (by repeat (first | exact Fr.refl _ _ | refine Fr.setCell ?_ (.inl (by first | exact .inl rfl | exact .inr rfl)) _)))
  have a0 := c1.cell (i := 0) (by omega)
  have a1 := c1.cell (i := 1) (by omega)
  have a2 := c1.cell (i := 2) (by omega)
  have d0 := c2.cell (i := 0) (by omega)
  have d1 := c2.cell (i := 1) (by omega)
  have d2 := c2.cell (i := 2) (by omega)
  have z0 := c1.frozen 0
  have z1 := c1.frozen 1
  have z2 := c1.frozen 2
  have y0 := c2.frozen 0
  have y1 := c2.frozen 1
  have y2 := c2.frozen 2
  have l1 := c1.lt
  have l2 := c2.lt
  simp only [zAn] at a0 a1 a2 d0 d1 d2
  clear c1 c2 c3 hl1
  go_wp2_with fail
  (try simp only [Exit.inBlock, Exit.then])
  refine bodyPost_ret (results_blk Tryz.results32 _ _ HR.out rfl Tryz.underlying75 rfl (by kernel_rfl)) rfl ?_
  exact ⟨rfl, HL.out⟩
set_option maxHeartbeats 4000000 in
theorem call_write (h : AnyP p q M m w F) (hm : m < 59000) (hn : p.n ≤ 64) (ho : o.ok) (ht : 0 < w.heap.size) (hk : o.k = 4) :
    Calls Tryz.prog 32 #[p.ptr, o.val] w fun e w' => e = .returned (⟨(M.write o.id o.v).1, 0, 0⟩ : AnF).val ∧ Led (AnyP p q (M.write o.id o.v).2 (m + 100)) F w w' := by
  obtain ⟨k, pg, v⟩ := o
  have f0 : Fr NoF w (((w.alloc (.cells #[.int .i64 k, .int .u32 (pg : Nat), .int .u64 (v : Nat)] 73)).alloc (.cells #[.int .i64 0, .int .u32 0, .int .u64 0] 75)).alloc (.cells #[.int .i64 0, .int .u32 0, .int .u64 0] 75)) := (((Fr.refl NoF w).alloc _).alloc _).alloc _
  have b0 := (((blkAn w (.int .i64 k) (.int .u32 (pg : Nat)) (.int .u64 (v : Nat)) (t := 73)).alloc (.cells #[.int .i64 0, .int .u32 0, .int .u64 0] 75)).alloc (.cells #[.int .i64 0, .int .u32 0, .int .u64 0] 75))
  have b1 := ((blkAn (w.alloc (.cells #[.int .i64 k, .int .u32 (pg : Nat), .int .u64 (v : Nat)] 73)) (.int .i64 0) (.int .u32 0) (.int .u64 0) (t := 75)).alloc (.cells #[.int .i64 0, .int .u32 0, .int .u64 0] 75))
  have b2 := (blkAn ((w.alloc (.cells #[.int .i64 k, .int .u32 (pg : Nat), .int .u64 (v : Nat)] 73)).alloc (.cells #[.int .i64 0, .int .u32 0, .int .u64 0] 75)) (.int .i64 0) (.int .u32 0) (.int .u64 0) (t := 75))
  rw [World.size_alloc] at b1
  rw [World.size_alloc, World.size_alloc] at b2
  have hs : (((w.alloc (.cells #[.int .i64 k, .int .u32 (pg : Nat), .int .u64 (v : Nat)] 73)).alloc (.cells #[.int .i64 0, .int .u32 0, .int .u64 0] 75)).alloc (.cells #[.int .i64 0, .int .u32 0, .int .u64 0] 75)).heap.size = w.heap.size + 3 := by rw [World.size_alloc, World.size_alloc, World.size_alloc]
  have hl := h.lt
  have hA := h.fr0 f0
  unfold OpF.val
  simp only at hk
  have KE := Lib.hid (fun (M' : AM) (m' : Nat) (w1 : World) (h1 : Led (AnyP p q M' m') F _ w1) => call_end hs f0 hl ht b1 b2 h1)
  have HA := Lib.hid hA
  have B0 := Lib.hid b0
  have hid0 := ho.1
  have hv0 := ho.2.1
  clear h b0 b1 b2 hA ho
  go_enter Tryz.func32, Tryz.ntmps32
  subst hk
  go_wp2_with fail
  refine (HA.out.wr hid0 hv0).mono ?_
  rintro e w1 ⟨rfl, hl1⟩
  obtain ⟨c1, c2, c3⟩ := KE.out _ _ w1 (hl1.mono (fun F' h' => h'.more (k := m + 100) (by omega)))
  have HR := Lib.hid ((((c1.other (a := ⟨w.heap.size + 1 + 1, 0, none⟩) (by simp) (.int .i64 ((M.write pg v).1 : Nat))).set 0 (.int .i64 ((M.write pg v).1 : Nat))).set 1 (.int .u32 0)).set 2 (.int .u64 0))
  have HL := Lib.hid (c3 ((((w1.setCell ⟨w.heap.size + 1 + 1, 0, none⟩ (.int .i64 ((M.write pg v).1 : Nat))).setCell ⟨w.heap.size + 1, 0, none⟩ (.int .i64 ((M.write pg v).1 : Nat))).setCell ⟨w.heap.size + 1, 1, none⟩ (.int .u32 0)).setCell ⟨w.heap.size + 1, 2, none⟩ (.int .u64 0)) (by repeat (first | exact Fr.refl _ _ | refine Fr.setCell ?_ (.inl (by first | exact .inl rfl | exact .inr rfl)) _)))
  have a0 := c1.cell (i := 0) (by omega)
  have a1 := c1.cell (i := 1) (by omega)
  have a2 := c1.cell (i := 2) (by omega)
  have d0 := c2.cell (i := 0) (by omega)
  have d1 := c2.cell (i := 1) (by omega)
  have d2 := c2.cell (i := 2) (by omega)
  have z0 := c1.frozen 0
  have z1 := c1.frozen 1
  have z2 := c1.frozen 2
  have y0 := c2.frozen 0
  have y1 := c2.frozen 1
  have y2 := c2.frozen 2
  have l1 := c1.lt
  have l2 := c2.lt
  simp only [zAn] at a0 a1 a2 d0 d1 d2
  clear c1 c2 c3 hl1
  go_wp2_with fail
  (try simp only [Exit.inBlock, Exit.then])
  refine bodyPost_ret (results_blk Tryz.results32 _ _ HR.out rfl Tryz.underlying75 rfl (by kernel_rfl)) rfl ?_
  exact ⟨rfl, HL.out⟩
set_option maxHeartbeats 4000000 in
theorem call_flush (h : AnyP p q M m w F) (hm : m < 59000) (hn : p.n ≤ 64) (ho : o.ok) (ht : 0 < w.heap.size) (hk : o.k = 5) :
    Calls Tryz.prog 32 #[p.ptr, o.val] w fun e w' => e = .returned (⟨M.flush o.id, 0, 0⟩ : AnF).val ∧ Led (AnyP p q M (m + 100)) F w w' := by
  obtain ⟨k, pg, v⟩ := o
  have f0 : Fr NoF w (((w.alloc (.cells #[.int .i64 k, .int .u32 (pg : Nat), .int .u64 (v : Nat)] 73)).alloc (.cells #[.int .i64 0, .int .u32 0, .int .u64 0] 75)).alloc (.cells #[.int .i64 0, .int .u32 0, .int .u64 0] 75)) := (((Fr.refl NoF w).alloc _).alloc _).alloc _
  have b0 := (((blkAn w (.int .i64 k) (.int .u32 (pg : Nat)) (.int .u64 (v : Nat)) (t := 73)).alloc (.cells #[.int .i64 0, .int .u32 0, .int .u64 0] 75)).alloc (.cells #[.int .i64 0, .int .u32 0, .int .u64 0] 75))
  have b1 := ((blkAn (w.alloc (.cells #[.int .i64 k, .int .u32 (pg : Nat), .int .u64 (v : Nat)] 73)) (.int .i64 0) (.int .u32 0) (.int .u64 0) (t := 75)).alloc (.cells #[.int .i64 0, .int .u32 0, .int .u64 0] 75))
  have b2 := (blkAn ((w.alloc (.cells #[.int .i64 k, .int .u32 (pg : Nat), .int .u64 (v : Nat)] 73)).alloc (.cells #[.int .i64 0, .int .u32 0, .int .u64 0] 75)) (.int .i64 0) (.int .u32 0) (.int .u64 0) (t := 75))
  rw [World.size_alloc] at b1
  rw [World.size_alloc, World.size_alloc] at b2
  have hs : (((w.alloc (.cells #[.int .i64 k, .int .u32 (pg : Nat), .int .u64 (v : Nat)] 73)).alloc (.cells #[.int .i64 0, .int .u32 0, .int .u64 0] 75)).alloc (.cells #[.int .i64 0, .int .u32 0, .int .u64 0] 75)).heap.size = w.heap.size + 3 := by rw [World.size_alloc, World.size_alloc, World.size_alloc]
  have hl := h.lt
  have hA := h.fr0 f0
  unfold OpF.val
  simp only at hk
  have KE := Lib.hid (fun (M' : AM) (m' : Nat) (w1 : World) (h1 : Led (AnyP p q M' m') F _ w1) => call_end hs f0 hl ht b1 b2 h1)
  have HA := Lib.hid hA
  have B0 := Lib.hid b0
  have hid0 := ho.1
  have hv0 := ho.2.1
  clear h b0 b1 b2 hA ho
  go_enter Tryz.func32, Tryz.ntmps32
  subst hk
  go_wp2_with fail
  refine (HA.out.fl (by omega) hid0).mono ?_
  rintro e w1 ⟨rfl, hl1⟩
  obtain ⟨c1, c2, c3⟩ := KE.out _ _ w1 (hl1.mono (fun F' h' => h'.more (k := m + 100) (by omega)))
  have HR := Lib.hid ((((c1.other (a := ⟨w.heap.size + 1 + 1, 0, none⟩) (by simp) (.int .i64 (M.flush pg : Nat))).set 0 (.int .i64 (M.flush pg : Nat))).set 1 (.int .u32 0)).set 2 (.int .u64 0))
  have HL := Lib.hid (c3 ((((w1.setCell ⟨w.heap.size + 1 + 1, 0, none⟩ (.int .i64 (M.flush pg : Nat))).setCell ⟨w.heap.size + 1, 0, none⟩ (.int .i64 (M.flush pg : Nat))).setCell ⟨w.heap.size + 1, 1, none⟩ (.int .u32 0)).setCell ⟨w.heap.size + 1, 2, none⟩ (.int .u64 0)) (by repeat (first | exact Fr.refl _ _ | refine Fr.setCell ?_ (.inl (by first | exact .inl rfl | exact .inr rfl)) _)))
  have a0 := c1.cell (i := 0) (by omega)
  have a1 := c1.cell (i := 1) (by omega)
  have a2 := c1.cell (i := 2) (by omega)
  have d0 := c2.cell (i := 0) (by omega)
  have d1 := c2.cell (i := 1) (by omega)
  have d2 := c2.cell (i := 2) (by omega)
  have z0 := c1.frozen 0
  have z1 := c1.frozen 1
  have z2 := c1.frozen 2
  have y0 := c2.frozen 0
  have y1 := c2.frozen 1
  have y2 := c2.frozen 2
  have l1 := c1.lt
  have l2 := c2.lt
  simp only [zAn] at a0 a1 a2 d0 d1 d2
  clear c1 c2 c3 hl1
  go_wp2_with fail
  (try simp only [Exit.inBlock, Exit.then])
  refine bodyPost_ret (results_blk Tryz.results32 _ _ HR.out rfl Tryz.underlying75 rfl (by kernel_rfl)) rfl ?_
  exact ⟨rfl, HL.out⟩
set_option maxHeartbeats 4000000 in
theorem call_delete (h : AnyP p q M m w F) (hm : m < 59000) (hn : p.n ≤ 64) (ho : o.ok) (ht : 0 < w.heap.size) (hk : o.k = 7) :
    Calls Tryz.prog 32 #[p.ptr, o.val] w fun e w' => e = .returned (⟨(M.delete o.id).1, 0, 0⟩ : AnF).val ∧ Led (AnyP p q (M.delete o.id).2 (m + 100)) F w w' := by
  obtain ⟨k, pg, v⟩ := o
  have f0 : Fr NoF w (((w.alloc (.cells #[.int .i64 k, .int .u32 (pg : Nat), .int .u64 (v : Nat)] 73)).alloc (.cells #[.int .i64 0, .int .u32 0, .int .u64 0] 75)).alloc (.cells #[.int .i64 0, .int .u32 0, .int .u64 0] 75)) := (((Fr.refl NoF w).alloc _).alloc _).alloc _
  have b0 := (((blkAn w (.int .i64 k) (.int .u32 (pg : Nat)) (.int .u64 (v : Nat)) (t := 73)).alloc (.cells #[.int .i64 0, .int .u32 0, .int .u64 0] 75)).alloc (.cells #[.int .i64 0, .int .u32 0, .int .u64 0] 75))
  have b1 := ((blkAn (w.alloc (.cells #[.int .i64 k, .int .u32 (pg : Nat), .int .u64 (v : Nat)] 73)) (.int .i64 0) (.int .u32 0) (.int .u64 0) (t := 75)).alloc (.cells #[.int .i64 0, .int .u32 0, .int .u64 0] 75))
  have b2 := (blkAn ((w.alloc (.cells #[.int .i64 k, .int .u32 (pg : Nat), .int .u64 (v : Nat)] 73)).alloc (.cells #[.int .i64 0, .int .u32 0, .int .u64 0] 75)) (.int .i64 0) (.int .u32 0) (.int .u64 0) (t := 75))
  rw [World.size_alloc] at b1
  rw [World.size_alloc, World.size_alloc] at b2
  have hs : (((w.alloc (.cells #[.int .i64 k, .int .u32 (pg : Nat), .int .u64 (v : Nat)] 73)).alloc (.cells #[.int .i64 0, .int .u32 0, .int .u64 0] 75)).alloc (.cells #[.int .i64 0, .int .u32 0, .int .u64 0] 75)).heap.size = w.heap.size + 3 := by rw [World.size_alloc, World.size_alloc, World.size_alloc]
  have hl := h.lt
  have hA := h.fr0 f0
  unfold OpF.val
  simp only at hk
  have KE := Lib.hid (fun (M' : AM) (m' : Nat) (w1 : World) (h1 : Led (AnyP p q M' m') F _ w1) => call_end hs f0 hl ht b1 b2 h1)
  have HA := Lib.hid hA
  have B0 := Lib.hid b0
  have hid0 := ho.1
  have hv0 := ho.2.1
  clear h b0 b1 b2 hA ho
  go_enter Tryz.func32, Tryz.ntmps32
  subst hk
  go_wp2_with fail
  refine (HA.out.de (by omega) hid0).mono ?_
  rintro e w1 ⟨rfl, hl1⟩
  obtain ⟨c1, c2, c3⟩ := KE.out _ _ w1 (hl1.mono (fun F' h' => h'.more (k := m + 100) (by omega)))
  have HR := Lib.hid ((((c1.other (a := ⟨w.heap.size + 1 + 1, 0, none⟩) (by simp) (.int .i64 ((M.delete pg).1 : Nat))).set 0 (.int .i64 ((M.delete pg).1 : Nat))).set 1 (.int .u32 0)).set 2 (.int .u64 0))
  have HL := Lib.hid (c3 ((((w1.setCell ⟨w.heap.size + 1 + 1, 0, none⟩ (.int .i64 ((M.delete pg).1 : Nat))).setCell ⟨w.heap.size + 1, 0, none⟩ (.int .i64 ((M.delete pg).1 : Nat))).setCell ⟨w.heap.size + 1, 1, none⟩ (.int .u32 0)).setCell ⟨w.heap.size + 1, 2, none⟩ (.int .u64 0)) (by repeat (first | exact Fr.refl _ _ | refine Fr.setCell ?_ (.inl (by first | exact .inl rfl | exact .inr rfl)) _)))
  have a0 := c1.cell (i := 0) (by omega)
  have a1 := c1.cell (i := 1) (by omega)
  have a2 := c1.cell (i := 2) (by omega)
  have d0 := c2.cell (i := 0) (by omega)
  have d1 := c2.cell (i := 1) (by omega)
  have d2 := c2.cell (i := 2) (by omega)
  have z0 := c1.frozen 0
  have z1 := c1.frozen 1
  have z2 := c1.frozen 2
  have y0 := c2.frozen 0
  have y1 := c2.frozen 1
  have y2 := c2.frozen 2
  have l1 := c1.lt
  have l2 := c2.lt
  simp only [zAn] at a0 a1 a2 d0 d1 d2
  clear c1 c2 c3 hl1
  go_wp2_with fail
  (try simp only [Exit.inBlock, Exit.then])
  refine bodyPost_ret (results_blk Tryz.results32 _ _ HR.out rfl Tryz.underlying75 rfl (by kernel_rfl)) rfl ?_
  exact ⟨rfl, HL.out⟩
set_option maxHeartbeats 4000000 in
theorem call_none (h : AnyP p q M m w F) (hm : m < 59000) (hn : p.n ≤ 64) (ho : o.ok) (ht : 0 < w.heap.size) (hk : ¬ (0 ≤ o.k ∧ o.k ≤ 7)) :
    Calls Tryz.prog 32 #[p.ptr, o.val] w fun e w' => e = .returned (⟨1, 0, 0⟩ : AnF).val ∧ Led (AnyP p q M (m + 100)) F w w' := by
  obtain ⟨k, pg, v⟩ := o
  have f0 : Fr NoF w (((w.alloc (.cells #[.int .i64 k, .int .u32 (pg : Nat), .int .u64 (v : Nat)] 73)).alloc (.cells #[.int .i64 0, .int .u32 0, .int .u64 0] 75)).alloc (.cells #[.int .i64 0, .int .u32 0, .int .u64 0] 75)) := (((Fr.refl NoF w).alloc _).alloc _).alloc _
  have b0 := (((blkAn w (.int .i64 k) (.int .u32 (pg : Nat)) (.int .u64 (v : Nat)) (t := 73)).alloc (.cells #[.int .i64 0, .int .u32 0, .int .u64 0] 75)).alloc (.cells #[.int .i64 0, .int .u32 0, .int .u64 0] 75))
  have b1 := ((blkAn (w.alloc (.cells #[.int .i64 k, .int .u32 (pg : Nat), .int .u64 (v : Nat)] 73)) (.int .i64 0) (.int .u32 0) (.int .u64 0) (t := 75)).alloc (.cells #[.int .i64 0, .int .u32 0, .int .u64 0] 75))
  have b2 := (blkAn ((w.alloc (.cells #[.int .i64 k, .int .u32 (pg : Nat), .int .u64 (v : Nat)] 73)).alloc (.cells #[.int .i64 0, .int .u32 0, .int .u64 0] 75)) (.int .i64 0) (.int .u32 0) (.int .u64 0) (t := 75))
  rw [World.size_alloc] at b1
  rw [World.size_alloc, World.size_alloc] at b2
  have hs : (((w.alloc (.cells #[.int .i64 k, .int .u32 (pg : Nat), .int .u64 (v : Nat)] 73)).alloc (.cells #[.int .i64 0, .int .u32 0, .int .u64 0] 75)).alloc (.cells #[.int .i64 0, .int .u32 0, .int .u64 0] 75)).heap.size = w.heap.size + 3 := by rw [World.size_alloc, World.size_alloc, World.size_alloc]
  have hl := h.lt
  have hA := h.fr0 f0
  unfold OpF.val
  simp only at hk
  have KE := Lib.hid (fun (M' : AM) (m' : Nat) (w1 : World) (h1 : Led (AnyP p q M' m') F _ w1) => call_end hs f0 hl ht b1 b2 h1)
  have HA := Lib.hid hA
  have B0 := Lib.hid b0
  have hid0 := ho.1
  have hv0 := ho.2.1
  clear h b0 b1 b2 hA ho
  go_enter Tryz.func32, Tryz.ntmps32
  have g0 : ¬ k = 0 := fun q => hk (by omega)
  have g1 : ¬ k = 1 := fun q => hk (by omega)
  have g2 : ¬ k = 2 := fun q => hk (by omega)
  have g3 : ¬ k = 3 := fun q => hk (by omega)
  have g4 : ¬ k = 4 := fun q => hk (by omega)
  have g5 : ¬ k = 5 := fun q => hk (by omega)
  have g6 : ¬ k = 6 := fun q => hk (by omega)
  have g7 : ¬ k = 7 := fun q => hk (by omega)
  clear hk
  go_upto_region 2 with fail
  have b00 := B0.out.cell (i := 0) (by omega)
  have b01 := B0.out.lt
  simp only at b00
  have hl1 : Led (AnyP p q M (m + 100)) F _ _ := Led.refl (HA.out.more (k := m + 100) (by omega))
  obtain ⟨c1, c2, c3⟩ := KE.out _ _ _ hl1
  clear hl1 HA B0
  generalize (((w.alloc (.cells #[.int .i64 k, .int .u32 (pg : Nat), .int .u64 (v : Nat)] 73)).alloc (.cells #[.int .i64 0, .int .u32 0, .int .u64 0] 75)).alloc (.cells #[.int .i64 0, .int .u32 0, .int .u64 0] 75)) = w1 at *
  have HR := Lib.hid ((((c1.other (a := ⟨w.heap.size + 1 + 1, 0, none⟩) (by simp) (.int .i64 1)).set 0 (.int .i64 1)).set 1 (.int .u32 0)).set 2 (.int .u64 0))
  have HL := Lib.hid (c3 ((((w1.setCell ⟨w.heap.size + 1 + 1, 0, none⟩ (.int .i64 1)).setCell ⟨w.heap.size + 1, 0, none⟩ (.int .i64 1)).setCell ⟨w.heap.size + 1, 1, none⟩ (.int .u32 0)).setCell ⟨w.heap.size + 1, 2, none⟩ (.int .u64 0)) (by repeat (first | exact Fr.refl _ _ | refine Fr.setCell ?_ (.inl (by first | exact .inl rfl | exact .inr rfl)) _)))
  have a0 := c1.cell (i := 0) (by omega)
  have a1 := c1.cell (i := 1) (by omega)
  have a2 := c1.cell (i := 2) (by omega)
  have d0 := c2.cell (i := 0) (by omega)
  have d1 := c2.cell (i := 1) (by omega)
  have d2 := c2.cell (i := 2) (by omega)
  have z0 := c1.frozen 0
  have z1 := c1.frozen 1
  have z2 := c1.frozen 2
  have y0 := c2.frozen 0
  have y1 := c2.frozen 1
  have y2 := c2.frozen 2
  have l1 := c1.lt
  have l2 := c2.lt
  simp only [zAn] at a0 a1 a2 d0 d1 d2
  clear c1 c2 c3
  go_wp2_with fail
  (try simp only [Exit.inBlock, Exit.then])
  refine bodyPost_ret (results_blk Tryz.results32 _ _ HR.out rfl Tryz.underlying75 rfl (by kernel_rfl)) rfl ?_
  exact ⟨rfl, HL.out⟩
end
end Go.Proofs.YtmpjnphnljakiaaGreatDoor
namespace Go.Proofs.YtmpjnphnljakiaaGreatDoor
open Go.RowKit Go.Maps
set_option linter.unusedVariables false
set_option linter.unusedSimpArgs false
set_option linter.unusedSectionVars false
set_option maxRecDepth 100000
/-- What a client is answered that lacks a pin. -/
def lackA (M : AM) (o : OpF) : AnF := ⟨if o.id ∈ M.ids then 5 else 3, 0, 0⟩
section
variable {p : PP} {q : Bool} {M : AM} {m : Nat} {w : World} {F : Nat → Prop} {o : OpF} {b fb i d mb s cnt : Nat} {ov cv lv : Value} {la : Option Nat} {pin : Nat → Nat}
set_option maxHeartbeats 4000000 in
theorem ccall_lack (h : AnyP p q M m w F) (ho : o.ok) (hc : Blk w b 5 (clC i ov d mb b s)) (hf : Blk w fb 4 (frC p.ptr cv la lv)) (hm : PinsAt w mb cnt (pinM pin)) (hl : lackB o pin = true) :
    Calls Tryz.prog 28 #[.pointer (some ⟨b, 0, none⟩), .pointer (some ⟨fb, 0, none⟩), o.val] w fun e w' => e = .returned (lackA M o).val ∧ Fr NoF w w' := by
  obtain ⟨k, pg, v⟩ := o
  have f0 : Fr NoF w ((w.alloc (.cells #[.int .i64 k, .int .u32 (pg : Nat), .int .u64 (v : Nat)] 73)).alloc (.cells #[.int .i64 0, .int .u32 0, .int .u64 0] 75)) := ((Fr.refl NoF w).alloc _).alloc _
  have b0 := ((blkAn w (.int .i64 k) (.int .u32 (pg : Nat)) (.int .u64 (v : Nat)) (t := 73)).alloc (.cells #[.int .i64 0, .int .u32 0, .int .u64 0] 75))
  have b1 := (blkAn (w.alloc (.cells #[.int .i64 k, .int .u32 (pg : Nat), .int .u64 (v : Nat)] 73)) (.int .i64 0) (.int .u32 0) (.int .u64 0) (t := 75))
  rw [World.size_alloc] at b1
  have hLK := lacks_calls ho (hc.fr f0 id) (hm.fr f0 id)
  have HLA : Hid (lackA M ⟨k, pg, v⟩ = ⟨if pg ∈ M.ids then 5 else 3, 0, 0⟩) := Lib.hid rfl
  rw [hl] at hLK
  have HA := Lib.hid h
  have HF := Lib.hid hf
  have HLK := Lib.hid hLK
  have B0 := Lib.hid b0
  have B1 := Lib.hid b1
  have F0 := Lib.hid f0
  have hid0 := ho.1
  have hlt := h.lt
  clear h b0 b1 hc hf hm hl ho hLK f0
  unfold OpF.val AnF.val
  go_enter Tryz.func28, Tryz.ntmps28
  go_wp2_with fail
  refine HLK.out.mono ?_
  clear HLK
  rintro e w1 ⟨rfl, f1⟩
  have HA1 := Lib.hid (HA.out.fr0 (F0.out.trans f1 (fun _ q => q.elim)))
  have HF1 := HF.out.fr (F0.out.trans f1 (fun _ q => q.elim)) id
  have B0 := Lib.hid (B0.out.fr f1 id)
  have B1 := Lib.hid (B1.out.fr f1 id)
  have F1 := Lib.hid (F0.out.trans f1 (fun _ q => q.elim))
  have g0 := HF1.cell (i := 0) (by omega)
  have lf := HF1.lt
  have o1 := B0.out.cell (i := 1) (by omega)
  have l0 := B0.out.lt
  have l1 := B1.out.lt
  simp only [frC] at g0
  simp only at o1
  clear f1 HF1 HA HF F0
  go_upto_region 2 with fail
  have HS : Hid (∀ n, Calls Tryz.prog 31 #[p.ptr, .int .u32 pg] (w1.drewN n) fun e w' => e = .returned (.bool (decide (pg ∈ M.ids))) ∧ w1.drewN n = w') := Lib.hid fun n => (HA1.out.fr0 ((Fr.refl NoF w1).drewN n)).hs hid0
  go_quiet ((first | (go_at_call 31; with_reducible exact qs (HS.out _)) | fail))
  have B1 := B1.out.drewN nq
  have F1 := F1.out.drewN nq
  generalize w1.drewN nq = w2 at *
  clear HS g0 lf o1 l0 l1 B0
  have a0 := B1.cell (i := 0) (by omega)
  have a1 := B1.cell (i := 1) (by omega)
  have a2 := B1.cell (i := 2) (by omega)
  have z0 := B1.frozen 0
  have z1 := B1.frozen 1
  have z2 := B1.frozen 2
  have l1 := B1.lt
  simp only at a0 a1 a2
  by_cases hin : pg ∈ M.ids
  · rw [decide_eq_true hin]
    have HR := Lib.hid (((B1.set 0 (.int .i64 5)).set 1 (.int .u32 0)).set 2 (.int .u64 0))
    have HL := Lib.hid (F1.setCell (p := ⟨w.heap.size + 1, 0, none⟩) (.inr (Nat.le_succ _)) (.int .i64 5) |>.setCell (p := ⟨w.heap.size + 1, 1, none⟩) (.inr (Nat.le_succ _)) (.int .u32 0) |>.setCell (p := ⟨w.heap.size + 1, 2, none⟩) (.inr (Nat.le_succ _)) (.int .u64 0))
    have HZ : Hid (lackA M ⟨k, pg, v⟩ = ⟨5, 0, 0⟩) := Lib.hid (by rw [HLA.out]; simp [hin])
    clear B1 F1 hin
    go_wp2_with fail
    (try simp only [Exit.inBlock, Exit.then])
    refine bodyPost_ret (results_blk Tryz.results28 _ _ HR.out rfl Tryz.underlying75 rfl (by kernel_rfl)) rfl ?_
    exact ⟨by rw [HZ.out]; rfl, HL.out⟩
  · rw [decide_eq_false hin]
    have HR := Lib.hid (((B1.set 0 (.int .i64 3)).set 1 (.int .u32 0)).set 2 (.int .u64 0))
    have HL := Lib.hid (F1.setCell (p := ⟨w.heap.size + 1, 0, none⟩) (.inr (Nat.le_succ _)) (.int .i64 3) |>.setCell (p := ⟨w.heap.size + 1, 1, none⟩) (.inr (Nat.le_succ _)) (.int .u32 0) |>.setCell (p := ⟨w.heap.size + 1, 2, none⟩) (.inr (Nat.le_succ _)) (.int .u64 0))
    have HZ : Hid (lackA M ⟨k, pg, v⟩ = ⟨3, 0, 0⟩) := Lib.hid (by rw [HLA.out]; simp [hin])
    clear B1 F1 hin
    go_wp2_with fail
    (try simp only [Exit.inBlock, Exit.then])
    refine bodyPost_ret (results_blk Tryz.results28 _ _ HR.out rfl Tryz.underlying75 rfl (by kernel_rfl)) rfl ?_
    exact ⟨by rw [HZ.out]; rfl, HL.out⟩
end
end Go.Proofs.YtmpjnphnljakiaaGreatDoor

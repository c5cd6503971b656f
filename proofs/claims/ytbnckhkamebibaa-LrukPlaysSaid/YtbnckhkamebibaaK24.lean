/-
  slices.SortFunc at things: compare as the library asks it; the structure laid.
-/
import Derived.Shelf.SlSortCmp.WholeK
import Derived.Shelf.Lay
import Derived.Ground.SlsfProg
import Derived.Test.YtbnckhkamebibaaK23
namespace Go.Proofs.Ytbnckhkamebibaa
open Go.RowKit Go.Maps Go.Shelf Go.Lib Go.Sort
set_option linter.unusedVariables false

/-- Blocks were laid, draws made: no more. -/
def Gw (w w' : World) : Prop := ∃ q os', w' = grow (w.drewN q) os'
theorem Gw.refl (w : World) : Gw w w := ⟨0, #[], by rw [grow_empty]; rfl⟩
theorem Gw.alloc {w w' : World} (h : Gw w w') (o : Obj) : Gw w (w'.alloc o) := by
  obtain ⟨q, os, rfl⟩ := h
  exact ⟨q, os ++ #[o], by rw [alloc_eq_grow, grow_grow]⟩
theorem Gw.drewN {w w' : World} (h : Gw w w') (n : Nat) : Gw w (w'.drewN n) := by
  obtain ⟨q, os, rfl⟩ := h
  exact ⟨q + n, os, by show grow ((w.drewN q).drewN n) os = _; congr 1; simp [World.drewN, Nat.add_assoc]⟩
theorem Gw.drew {w w' : World} (h : Gw w w') : Gw w w'.drew := h.drewN 1
instance : Inhabited Th := ⟨⟨0, 0, 0⟩⟩
theorem ltOf_cmpT : ltOf cmpT = ltT := rfl
theorem swoT : SWO (ltOf cmpT) where
  irrefl x := by rw [ltOf_cmpT, ltT_not]; omega
  trans x y z h1 h2 := by rw [ltOf_cmpT, ltT_iff] at *; omega
  ntrans x y z h1 h2 := by rw [ltOf_cmpT, ltT_not] at *; omega
section
variable {w w' : World}
set_option maxHeartbeats 2000000 in
theorem compare_gw (t u : Th) (w : World) : Calls Try.prog 55 #[thV t, thV u] w fun e w' => e = .returned (.int .i64 (cmpT t u)) ∧ Gw w w' := by
  obtain ⟨tx, ta, tb⟩ := t
  obtain ⟨ux, ua, ub⟩ := u
  unfold thV
  have HE : Hid (cmpT ⟨tx, ta, tb⟩ ⟨ux, ua, ub⟩ = orI (cmpI ta ua) (cmpI tb ub) (cmpI tx ux)) := rfl
  rw [HE.out]
  have HA := Lib.hid (fun W => cmp64 ta ua W)
  have HB := Lib.hid (fun W => cmp64 tb ub W)
  have HX := Lib.hid (fun W => cmpInt tx ux W)
  generalize cmpI ta ua = p at *
  generalize cmpI tb ub = q at *
  generalize cmpI tx ux = r at *
  go_enter Try.func55, Try.ntmps55
  go_wp2_with fail
  have HBX : Hid (∀ W, Fr NoF ((w.alloc (.cells #[.int .i64 tx, .int .i64 ta, .int .i64 tb] 108)).alloc (.cells #[.int .i64 ux, .int .i64 ua, .int .i64 ub] 108)) W → W.cell? ⟨w.heap.size, 0, none⟩ = some (.int .i64 tx) ∧ W.cell? ⟨w.heap.size, 1, none⟩ = some (.int .i64 ta) ∧ W.cell? ⟨w.heap.size, 2, none⟩ = some (.int .i64 tb) ∧ W.cell? ⟨w.heap.size + 1, 0, none⟩ = some (.int .i64 ux) ∧ W.cell? ⟨w.heap.size + 1, 1, none⟩ = some (.int .i64 ua) ∧ W.cell? ⟨w.heap.size + 1, 2, none⟩ = some (.int .i64 ub)) := by
    intro W f
    have b1 : Blk ((w.alloc (.cells #[.int .i64 tx, .int .i64 ta, .int .i64 tb] 108)).alloc (.cells #[.int .i64 ux, .int .i64 ua, .int .i64 ub] 108)) w.heap.size 3 (fun i => if i = 0 then .int .i64 tx else if i = 1 then .int .i64 ta else .int .i64 tb) := (Blk.new w #[.int .i64 tx, .int .i64 ta, .int .i64 tb] 108 3 _ _ rfl rfl (fun i hi => by
      match i, hi with
      | 0, _ => rfl
      | 1, _ => rfl
      | 2, _ => rfl)).alloc _
    have b2 : Blk ((w.alloc (.cells #[.int .i64 tx, .int .i64 ta, .int .i64 tb] 108)).alloc (.cells #[.int .i64 ux, .int .i64 ua, .int .i64 ub] 108)) (w.heap.size + 1) 3 (fun i => if i = 0 then .int .i64 ux else if i = 1 then .int .i64 ua else .int .i64 ub) := Blk.new _ #[.int .i64 ux, .int .i64 ua, .int .i64 ub] 108 3 _ _ (by simp) rfl (fun i hi => by
      match i, hi with
      | 0, _ => rfl
      | 1, _ => rfl
      | 2, _ => rfl)
    have c1 := b1.fr f (fun q => q)
    have c2 := b2.fr f (fun q => q)
    exact ⟨c1.cell (i := 0) (by omega), c1.cell (i := 1) (by omega), c1.cell (i := 2) (by omega), c2.cell (i := 0) (by omega), c2.cell (i := 1) (by omega), c2.cell (i := 2) (by omega)⟩
  have HSZ : Hid (Gw w ((w.alloc (.cells #[.int .i64 tx, .int .i64 ta, .int .i64 tb] 108)).alloc (.cells #[.int .i64 ux, .int .i64 ua, .int .i64 ub] 108))) := ((Gw.refl w).alloc _).alloc _
  have hl1 : w.heap.size < ((w.alloc (.cells #[.int .i64 tx, .int .i64 ta, .int .i64 tb] 108)).alloc (.cells #[.int .i64 ux, .int .i64 ua, .int .i64 ub] 108)).heap.size := by simp; omega
  have hl2 : w.heap.size + 1 < ((w.alloc (.cells #[.int .i64 tx, .int .i64 ta, .int .i64 tb] 108)).alloc (.cells #[.int .i64 ux, .int .i64 ua, .int .i64 ub] 108)).heap.size := by simp
  generalize (w.alloc (.cells #[.int .i64 tx, .int .i64 ta, .int .i64 tb] 108)).alloc (.cells #[.int .i64 ux, .int .i64 ua, .int .i64 ub] 108) = wB at *
  generalize w.heap.size + 1 = bU at *
  generalize w.heap.size = bT at *
  have HOr : Hid (∀ W, Fr NoF (wB.alloc (.cells #[.int .i64 p, .int .i64 q, .int .i64 r] 3)) W → Calls Try.prog 63 #[.slice (some ⟨wB.heap.size, 0, none⟩) 3 3] W fun e w' => e = .returned (.int .i64 (orI p q r)) ∧ W = w') := by
    intro W f
    have b1 : Blk (wB.alloc (.cells #[.int .i64 p, .int .i64 q, .int .i64 r] 3)) wB.heap.size 3 (fun i => if i = 0 then .int .i64 p else if i = 1 then .int .i64 q else .int .i64 r) := Blk.new wB #[.int .i64 p, .int .i64 q, .int .i64 r] 3 3 _ _ rfl rfl (fun i hi => by
      match i, hi with
      | 0, _ => rfl
      | 1, _ => rfl
      | 2, _ => rfl)
    have c1 := b1.fr f (fun q => q)
    exact or_calls (c1.cell (i := 0) (by omega)) (c1.cell (i := 1) (by omega)) (c1.cell (i := 2) (by omega))
  go_region_held3 (fun w' => w'.cell? ⟨bT, 0, none⟩ = some (.int .i64 tx) ∧ w'.cell? ⟨bT, 1, none⟩ = some (.int .i64 ta) ∧ w'.cell? ⟨bT, 2, none⟩ = some (.int .i64 tb) ∧ w'.cell? ⟨bU, 0, none⟩ = some (.int .i64 ux) ∧ w'.cell? ⟨bU, 1, none⟩ = some (.int .i64 ua) ∧ w'.cell? ⟨bU, 2, none⟩ = some (.int .i64 ub))
    (exact HBX.out _ (by repeat (first | exact Fr.refl NoF _ | apply Fr.drew | apply Fr.drewN | apply Fr.alloc)))
    (first
      | (go_at_call 64; (with_reducible refine (HA.out _).mono ?_); rintro e w' ⟨rfl, rfl⟩)
      | (go_at_call 64; (with_reducible refine (HB.out _).mono ?_); rintro e w' ⟨rfl, rfl⟩)
      | (go_at_call 65; (with_reducible refine (HX.out _).mono ?_); rintro e w' ⟨rfl, rfl⟩)
      | (go_at_call 63; (with_reducible refine (HOr.out _ (by repeat (first | exact Fr.refl NoF _ | apply Fr.drew | apply Fr.drewN))).mono ?_); rintro e w' ⟨rfl, rfl⟩))
  all_goals
    go_wp2
    go_returns
    exact ⟨rfl, by repeat (first | exact HSZ.out | apply Gw.drew | apply Gw.drewN | apply Gw.alloc)⟩
end
shelf_lay_g SlLaysF0.n6 Slsf 6 at Try 61 as Try.sortTh
theorem cmpLaysT (blk off size : Nat) (w : World) : CmpLays Try.prog 55 #[] thC 3 cmpT blk off size w :=
  fun _ _ _ _ x y => compare_gw x y _
theorem sort_raw (blk cap : Nat) (d : Array Th) (w : World) (hH : HoldsK thC 3 w blk 0 d) (hblk : blk < w.heap.size) (hsz : d.size < 1000000) :
    Calls Try.prog 61 #[.slice (some ⟨blk, 0, none⟩) d.size cap, .func (.func 55) #[] #[]] w fun e w' =>
      e = .returned (.tuple #[]) ∧ ∃ d' n os, PermIn 0 d.size d d' ∧ SortedIn ltT 0 d.size d' ∧ w' = sortWorldK thC 3 w blk 0 n d' os :=
  AnyQ.slices_SortFunc Try.sortTh 3 Try.isAgg108 Try.sizeOf108 thC (fun _ => rfl) (fun x v hv => by simp [thC] at hv; rcases hv with rfl | rfl | rfl <;> rfl) cmpT swoT 55 #[] blk 0 cap d w (enters_of Try.func55 (by kernel_rfl) rfl) (cmpLaysT blk 0 d.size w) hH hblk (by omega)
end Go.Proofs.Ytbnckhkamebibaa

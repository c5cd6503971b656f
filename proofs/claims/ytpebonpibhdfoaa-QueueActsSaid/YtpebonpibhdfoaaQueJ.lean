/-
  slices.SortFunc at things: compare as the library asks it; the structure laid.
-/
import Derived.Shelf.SlSortCmp.WholeK
import Derived.Shelf.Lay
import Derived.Ground.SlsfProg
import Derived.Test.YtpebonpibhdfoaaQueI
namespace Go.Proofs.Ytpebonpibhdfoaa
open Go.RowKit Go.Maps Go.Shelf Go.Lib Go.Sort
set_option linter.unusedVariables false

/-- Blocks were laid, draws made: no more. -/
def Gw (w w' : World) : Prop := ∃ q os', w' = grow (w.drewN q) os'
theorem Gw.refl (w : World) : Gw w w := ⟨0, #[], by rw [grow_empty]; rfl⟩
theorem Gw.alloc {w w' : World} (h : Gw w w') (o : Obj) : Gw w (w'.alloc o) := by
  obtain ⟨q, os, rfl⟩ := h
  exact ⟨q, os ++ #[o], by rw [alloc_eq_grow, grow_grow]⟩
theorem Gw.drewN {w w' : World} (h : Gw w w') (n : Nat) : Gw w (w'.drewN n) := by
  obtain ⟨q, os, rfl⟩ := h
  exact ⟨q + n, os, by show grow ((w.drewN q).drewN n) os = _; congr 1; simp [World.drewN, Nat.add_assoc]⟩
theorem Gw.drew {w w' : World} (h : Gw w w') : Gw w w'.drew := h.drewN 1
instance : Inhabited Th := ⟨⟨0, 0, 0⟩⟩
theorem ltOf_cmpT : ltOf cmpT = ltT := rfl
theorem swoT : SWO (ltOf cmpT) where
  irrefl x := by rw [ltOf_cmpT, ltT_not]; omega
  trans x y z h1 h2 := by rw [ltOf_cmpT, ltT_iff] at *; omega
  ntrans x y z h1 h2 := by rw [ltOf_cmpT, ltT_not] at *; omega
section
variable {w w' : World}
set_option maxHeartbeats 2000000 in
theorem compare_gw (t u : Th) (w : World) : Calls Try.prog 21 #[thV t, thV u] w fun e w' => e = .returned (.int .i64 (cmpT t u)) ∧ Gw w w' := by
  obtain ⟨tx, ta, tb⟩ := t
  obtain ⟨ux, ua, ub⟩ := u
  unfold thV
  have HE : Hid (cmpT ⟨tx, ta, tb⟩ ⟨ux, ua, ub⟩ = orI (cmpI ta ua) (cmpI tb ub) (cmpI tx ux)) := rfl
  rw [HE.out]
  have HA := Lib.hid (fun W => cmp64 ta ua W)
  have HB := Lib.hid (fun W => cmp64 tb ub W)
  have HX := Lib.hid (fun W => cmpInt tx ux W)
  generalize cmpI ta ua = p at *
  generalize cmpI tb ub = q at *
  generalize cmpI tx ux = r at *
  go_enter Try.func21, Try.ntmps21
  go_wp2_with fail
  have HBX : Hid (∀ W, Fr NoF ((w.alloc (.cells #[.int .i64 tx, .int .i64 ta, .int .i64 tb] 54)).alloc (.cells #[.int .i64 ux, .int .i64 ua, .int .i64 ub] 54)) W → W.cell? ⟨w.heap.size, 0, none⟩ = some (.int .i64 tx) ∧ W.cell? ⟨w.heap.size, 1, none⟩ = some (.int .i64 ta) ∧ W.cell? ⟨w.heap.size, 2, none⟩ = some (.int .i64 tb) ∧ W.cell? ⟨w.heap.size + 1, 0, none⟩ = some (.int .i64 ux) ∧ W.cell? ⟨w.heap.size + 1, 1, none⟩ = some (.int .i64 ua) ∧ W.cell? ⟨w.heap.size + 1, 2, none⟩ = some (.int .i64 ub)) := by
    intro W f
    have b1 : Blk ((w.alloc (.cells #[.int .i64 tx, .int .i64 ta, .int .i64 tb] 54)).alloc (.cells #[.int .i64 ux, .int .i64 ua, .int .i64 ub] 54)) w.heap.size 3 (fun i => if i = 0 then .int .i64 tx else if i = 1 then .int .i64 ta else .int .i64 tb) := (Blk.new w #[.int .i64 tx, .int .i64 ta, .int .i64 tb] 54 3 _ _ rfl rfl (fun i hi => by
      match i, hi with
      | 0, _ => rfl
      | 1, _ => rfl
      | 2, _ => rfl)).alloc _
    have b2 : Blk ((w.alloc (.cells #[.int .i64 tx, .int .i64 ta, .int .i64 tb] 54)).alloc (.cells #[.int .i64 ux, .int .i64 ua, .int .i64 ub] 54)) (w.heap.size + 1) 3 (fun i => if i = 0 then .int .i64 ux else if i = 1 then .int .i64 ua else .int .i64 ub) := Blk.new _ #[.int .i64 ux, .int .i64 ua, .int .i64 ub] 54 3 _ _ (by simp) rfl (fun i hi => by
      match i, hi with
      | 0, _ => rfl
      | 1, _ => rfl
      | 2, _ => rfl)
    have c1 := b1.fr f (fun q => q)
    have c2 := b2.fr f (fun q => q)
    exact ⟨c1.cell (i := 0) (by omega), c1.cell (i := 1) (by omega), c1.cell (i := 2) (by omega), c2.cell (i := 0) (by omega), c2.cell (i := 1) (by omega), c2.cell (i := 2) (by omega)⟩
  have HSZ : Hid (Gw w ((w.alloc (.cells #[.int .i64 tx, .int .i64 ta, .int .i64 tb] 54)).alloc (.cells #[.int .i64 ux, .int .i64 ua, .int .i64 ub] 54))) := ((Gw.refl w).alloc _).alloc _
  have hl1 : w.heap.size < ((w.alloc (.cells #[.int .i64 tx, .int .i64 ta, .int .i64 tb] 54)).alloc (.cells #[.int .i64 ux, .int .i64 ua, .int .i64 ub] 54)).heap.size := by simp; omega
  have hl2 : w.heap.size + 1 < ((w.alloc (.cells #[.int .i64 tx, .int .i64 ta, .int .i64 tb] 54)).alloc (.cells #[.int .i64 ux, .int .i64 ua, .int .i64 ub] 54)).heap.size := by simp
  generalize (w.alloc (.cells #[.int .i64 tx, .int .i64 ta, .int .i64 tb] 54)).alloc (.cells #[.int .i64 ux, .int .i64 ua, .int .i64 ub] 54) = wB at *
  generalize w.heap.size + 1 = bU at *
  generalize w.heap.size = bT at *
  have HOr : Hid (∀ W, Fr NoF (wB.alloc (.cells #[.int .i64 p, .int .i64 q, .int .i64 r] 3)) W → Calls Try.prog 28 #[.slice (some ⟨wB.heap.size, 0, none⟩) 3 3] W fun e w' => e = .returned (.int .i64 (orI p q r)) ∧ W = w') := by
    intro W f
    have b1 : Blk (wB.alloc (.cells #[.int .i64 p, .int .i64 q, .int .i64 r] 3)) wB.heap.size 3 (fun i => if i = 0 then .int .i64 p else if i = 1 then .int .i64 q else .int .i64 r) := Blk.new wB #[.int .i64 p, .int .i64 q, .int .i64 r] 3 3 _ _ rfl rfl (fun i hi => by
      match i, hi with
      | 0, _ => rfl
      | 1, _ => rfl
      | 2, _ => rfl)
    have c1 := b1.fr f (fun q => q)
    exact or_calls (c1.cell (i := 0) (by omega)) (c1.cell (i := 1) (by omega)) (c1.cell (i := 2) (by omega))
  go_region_held3 (fun w' => w'.cell? ⟨bT, 0, none⟩ = some (.int .i64 tx) ∧ w'.cell? ⟨bT, 1, none⟩ = some (.int .i64 ta) ∧ w'.cell? ⟨bT, 2, none⟩ = some (.int .i64 tb) ∧ w'.cell? ⟨bU, 0, none⟩ = some (.int .i64 ux) ∧ w'.cell? ⟨bU, 1, none⟩ = some (.int .i64 ua) ∧ w'.cell? ⟨bU, 2, none⟩ = some (.int .i64 ub))
    (exact HBX.out _ (by repeat (first | exact Fr.refl NoF _ | apply Fr.drew | apply Fr.drewN | apply Fr.alloc)))
    (first
      | (go_at_call 29; (with_reducible refine (HA.out _).mono ?_); rintro e w' ⟨rfl, rfl⟩)
      | (go_at_call 29; (with_reducible refine (HB.out _).mono ?_); rintro e w' ⟨rfl, rfl⟩)
      | (go_at_call 30; (with_reducible refine (HX.out _).mono ?_); rintro e w' ⟨rfl, rfl⟩)
      | (go_at_call 28; (with_reducible refine (HOr.out _ (by repeat (first | exact Fr.refl NoF _ | apply Fr.drew | apply Fr.drewN))).mono ?_); rintro e w' ⟨rfl, rfl⟩))
  all_goals
    go_wp2
    go_returns
    exact ⟨rfl, by repeat (first | exact HSZ.out | apply Gw.drew | apply Gw.drewN | apply Gw.alloc)⟩
end
def Try.sortTh_ren : Go.Shelf.Ren := ⟨fun | 6 => 26 | 15 => 33 | 14 => 32 | 28 => 44 | 29 => 45 | 20 => 36 | 21 => 37 | 22 => 38 | 23 => 39 | 24 => 40 | 25 => 41 | 26 => 42 | 27 => 43 | 46 => 46 | 47 => 47 | 48 => 48 | 49 => 49 | 50 => 50 | 57 => 51 | n => n, fun | 22 => 47 | 24 => 54 | 25 => 65 | 3 => 3 | 39 => 82 | 0 => 0 | 53 => 92 | 55 => 33 | 4 => 4 | 46 => 86 | 45 => 85 | 50 => 29 | 5 => 5 | 9 => 9 | 66 => 94 | 70 => 98 | 76 => 100 | 77 => 101 | n => n, fun | n => n⟩
theorem Try.sortTh : Go.Proofs.SlLaysF0.n6 Try.prog Try.sortTh_ren := {
  mixed := by kernel_rfl,
  f6 := ⟨Try.f26.name, by decide, Try.func26.trans (congrArg some (by kernel_rfl))⟩,
  f14 := ⟨Try.f32.name, by decide, Try.func32.trans (congrArg some (by kernel_rfl))⟩,
  f15 := Try.func33.trans (congrArg some (by kernel_rfl)),
  f20 := ⟨Try.f36.name, by decide, Try.func36.trans (congrArg some (by kernel_rfl))⟩,
  f21 := ⟨Try.f37.name, by decide, Try.func37.trans (congrArg some (by kernel_rfl))⟩,
  f22 := ⟨Try.f38.name, by decide, Try.func38.trans (congrArg some (by kernel_rfl))⟩,
  f23 := ⟨Try.f39.name, by decide, Try.func39.trans (congrArg some (by kernel_rfl))⟩,
  f24 := ⟨Try.f40.name, by decide, Try.func40.trans (congrArg some (by kernel_rfl))⟩,
  f25 := ⟨Try.f41.name, by decide, Try.func41.trans (congrArg some (by kernel_rfl))⟩,
  f26 := ⟨Try.f42.name, by decide, Try.func42.trans (congrArg some (by kernel_rfl))⟩,
  f27 := ⟨Try.f43.name, by decide, Try.func43.trans (congrArg some (by kernel_rfl))⟩,
  f28 := Try.func44.trans (congrArg some (by kernel_rfl)),
  f29 := Try.func45.trans (congrArg some (by kernel_rfl)),
  f46 := ⟨Try.f46.name, by decide, Try.func46.trans (congrArg some (by kernel_rfl))⟩,
  f47 := Try.func47.trans (congrArg some (by kernel_rfl)),
  f48 := Try.func48.trans (congrArg some (by kernel_rfl)),
  f49 := ⟨Try.f49.name, by decide, Try.func49.trans (congrArg some (by kernel_rfl))⟩,
  f50 := ⟨Try.f50.name, by decide, Try.func50.trans (congrArg some (by kernel_rfl))⟩,
  f57 := ⟨Try.f51.name, by decide, Try.func51.trans (congrArg some (by kernel_rfl))⟩,
  t0 := Try.underlying0,
  a0 := Try.isAgg0,
  z0 := Try.sizeOf0,
  v0 := Try.zeroValue0,
  t3 := Try.underlying3,
  a3 := Try.isAgg3,
  z3 := Try.sizeOf3,
  v3 := Try.zeroValue3,
  t4 := Try.underlying4,
  a4 := Try.isAgg4,
  z4 := Try.sizeOf4,
  v4 := Try.zeroValue4,
  t5 := Try.underlying5,
  a5 := Try.isAgg5,
  z5 := Try.sizeOf5,
  v5 := Try.zeroValue5,
  t9 := Try.underlying9,
  a9 := Try.isAgg9,
  z9 := Try.sizeOf9,
  v9 := Try.zeroValue9,
  t22 := Try.underlying47,
  a22 := Try.isAgg47,
  z22 := Try.sizeOf47,
  v22 := Try.zeroValue47,
  t25 := Try.underlying65,
  a25 := Try.isAgg65,
  z25 := Try.sizeOf65,
  v25 := Try.zeroValue65,
  t39 := Try.underlying82,
  a39 := Try.isAgg82,
  z39 := Try.sizeOf82,
  v39 := Try.zeroValue82,
  t45 := Try.underlying85,
  a45 := Try.isAgg85,
  z45 := Try.sizeOf85,
  v45 := Try.zeroValue85,
  t46 := Try.underlying86,
  a46 := Try.isAgg86,
  z46 := Try.sizeOf86,
  v46 := Try.zeroValue86,
  t50 := Try.underlying29,
  a50 := Try.isAgg29,
  z50 := Try.sizeOf29,
  v50 := Try.zeroValue29,
  t53 := Try.underlying92,
  a53 := Try.isAgg92,
  z53 := Try.sizeOf92,
  v53 := Try.zeroValue92,
  t55 := Try.underlying33,
  a55 := Try.isAgg33,
  z55 := Try.sizeOf33,
  v55 := Try.zeroValue33,
  t66 := Try.underlying94,
  a66 := Try.isAgg94,
  z66 := Try.sizeOf94,
  v66 := Try.zeroValue94,
  t70 := Try.underlying98,
  a70 := Try.isAgg98,
  z70 := Try.sizeOf98,
  v70 := Try.zeroValue98,
  t76 := Try.underlying100,
  a76 := Try.isAgg100,
  z76 := Try.sizeOf100,
  v76 := Try.zeroValue100,
  t77 := Try.underlying101,
  a77 := Try.isAgg101,
  z77 := Try.sizeOf101,
  v77 := Try.zeroValue101 }
theorem cmpLaysT (blk off size : Nat) (w : World) : CmpLays Try.prog 21 #[] thC 3 cmpT blk off size w :=
  fun _ _ _ _ x y => compare_gw x y _
theorem sort_raw (blk cap : Nat) (d : Array Th) (w : World) (hH : HoldsK thC 3 w blk 0 d) (hblk : blk < w.heap.size) (hsz : d.size < 1000000) :
    Calls Try.prog 26 #[.slice (some ⟨blk, 0, none⟩) d.size cap, .func (.func 21) #[] #[]] w fun e w' =>
      e = .returned (.tuple #[]) ∧ ∃ d' n os, PermIn 0 d.size d d' ∧ SortedIn ltT 0 d.size d' ∧ w' = sortWorldK thC 3 w blk 0 n d' os :=
  AnyQ.slices_SortFunc Try.sortTh 3 Try.isAgg54 Try.sizeOf54 thC (fun _ => rfl) (fun x v hv => by simp [thC] at hv; rcases hv with rfl | rfl | rfl <;> rfl) cmpT swoT 21 #[] blk 0 cap d w (enters_of Try.func21 (by kernel_rfl) rfl) (cmpLaysT blk 0 d.size w) hH hblk (by omega)
end Go.Proofs.Ytpebonpibhdfoaa

/-
  Lines: the law's walk.
-/
import Derived.Test.YtkkobohofopgmaaDoorLinV
import Derived.Deep.RegionHeld3
namespace Go.Proofs.YtkkobohofopgmaaDoor
open Go.RowKit Go.Maps Go.Sort
set_option linter.unusedVariables false
set_option linter.unusedSimpArgs false
set_option maxRecDepth 100000
theorem blk3 {w : World} (k id v : Value) {t : TypeId} : Blk (w.alloc (.cells #[k, id, v] t)) w.heap.size 3 (fun i => match i with | 0 => k | 1 => id | _ => v) := Blk.new w _ _ 3 _ _ rfl rfl (fun i hi => by
  match i, hi with
  | 0, _ | 1, _ | 2, _ => rfl)
theorem Blk.three {w : World} {b : Nat} {x y z : Value} (h : Blk w b 3 (fun i => match i with | 0 => x | 1 => y | _ => z)) : w.cell? ⟨b, 0, none⟩ = some x ∧ w.cell? ⟨b, 1, none⟩ = some y ∧ w.cell? ⟨b, 2, none⟩ = some z := ⟨h.cell (i := 0) (by omega), h.cell (i := 1) (by omega), h.cell (i := 2) (by omega)⟩
theorem empty_list (l : List UInt8) : (bs l).toList = l := by rw [ByteArray.toList_eq, bs_list]
set_option maxHeartbeats 8000000 in
theorem lines_far {w : World} (hT : LT w) {l : List UInt8} (hl : l.length ≤ 9223372036854775807) {k : Int} {id v : Nat} {er : Int} {aid av : Nat} (hfar : 200 < l.length ∨ er < 0 ∨ 8 < er) :
    Calls Tryd.prog 4 #[.agg #[.int .i64 k, .int .u32 id, .int .u64 v], .string (bs l), .agg #[.int .i64 er, .int .u32 aid, .int .u64 av]] w fun e w' => e = .returned (.bool true) ∧ Fr NoF w w' := by
  have HTD : Hid (∀ W, Fr NoF w W → Calls Tryd.prog 7 #[] W fun e w' => e = .returned (.bool true) ∧ Fr NoF W w') := fun W f => lawtold_calls (hT.fr f)
  have hz : (bs l).size = l.length := bs_size l
  clear hT
  by_cases c1 : 200 < l.length
  · have c1' : (200 : Int) < (l.length : Int) := by omega
    clear hfar
    go_enter Tryd.func4, Tryd.ntmps4
    go_wp2_with fail
    refine (HTD.out _ (((Fr.refl _ _).alloc _).alloc _)).mono ?_
    rintro e w1 ⟨rfl, h1⟩
    have H1 := Lib.hid (Fr.trans (((Fr.refl NoF w).alloc _).alloc _) h1 (fun _ q => q.elim))
    clear h1
    go_wp2
    go_returns
    exact ⟨rfl, H1.out⟩
  · have c1' : (l.length : Int) ≤ 200 := by omega
    by_cases c2 : er < 0
    · clear hfar
      go_enter Tryd.func4, Tryd.ntmps4
      go_wp2_with fail
      refine (HTD.out _ (((Fr.refl _ _).alloc _).alloc _)).mono ?_
      rintro e w1 ⟨rfl, h1⟩
      have H1 := Lib.hid (Fr.trans (((Fr.refl NoF w).alloc _).alloc _) h1 (fun _ q => q.elim))
      clear h1
      go_wp2
      go_returns
      exact ⟨rfl, H1.out⟩
    · have c3 : 8 < er := by omega
      clear hfar
      go_enter Tryd.func4, Tryd.ntmps4
      go_wp2_with fail
      refine (HTD.out _ (((Fr.refl _ _).alloc _).alloc _)).mono ?_
      rintro e w1 ⟨rfl, h1⟩
      have H1 := Lib.hid (Fr.trans (((Fr.refl NoF w).alloc _).alloc _) h1 (fun _ q => q.elim))
      clear h1
      go_wp2
      go_returns
      exact ⟨rfl, H1.out⟩
set_option maxHeartbeats 16000000 in
theorem lines_near {w : World} (hT : LT w) {l : List UInt8} (hl : l.length ≤ 200) {k : Int} {id v : Nat} (hid : id < 4294967296) (hv : v < 18446744073709551616) {er aid av : Nat} (her : er < 9) (haid : aid < 4294967296) (hav : av < 18446744073709551616) :
    Calls Tryd.prog 4 #[.agg #[.int .i64 k, .int .u32 id, .int .u64 v], .string (bs l), .agg #[.int .i64 er, .int .u32 aid, .int .u64 av]] w fun e w' => e = .returned (.bool true) ∧ Fr NoF w w' := by
  have HTD : Hid (∀ W, Fr NoF w W → Calls Tryd.prog 7 #[] W fun e w' => e = .returned (.bool true) ∧ Fr NoF W w') := fun W f => lawtold_calls (hT.fr f)
  have hz : (bs l).size = l.length := bs_size l
  have c1' : (l.length : Int) ≤ 200 := by omega
  have c2' : (er : Int) ≤ 8 := by omega
  have c3' : ¬ (8 : Int) < (er : Int) := by omega
  have c4' : ¬ 8 < er := by omega
  have HP : Hid (∀ W, Fr NoF w W → Calls Tryd.prog 9 #[.string (bs l)] W fun e w' => ∃ (k : Int) (id v err : Nat), e = .returned (.tuple #[.agg #[.int .i64 k, .int .u32 id, .int .u64 v], .int .i64 err]) ∧ ParseR l k id v err ∧ Fr NoF W w') := fun W f => parse_calls (hT.fr f) (by omega)
  have HQ : Hid (∀ W, Calls Tryd.prog 10 #[.string (bs l)] W fun e w' => ∃ (k : Int) (id v : Nat) (ok : Bool), e = .returned (.tuple #[.agg #[.int .i64 k, .int .u32 id, .int .u64 v], .bool ok]) ∧ ParseR l k id v (if ok = true then 0 else 8) ∧ Fr NoF W w') := fun W => rparse_calls (by omega)
  have HTO : Hid (∀ (k id x : Int) W, Calls Tryd.prog 8 #[.agg #[.int .i64 k, .int .u32 id, .int .u64 x]] W fun e w' => e = .returned (.agg #[.int .i64 k, .int .u32 id, .int .u64 x]) ∧ Fr NoF W w') := fun k id x W => to_calls k id x W
  have HLN : Hid (∀ W, Fr NoF w W → Calls Tryd.prog 11 #[.agg #[.int .i64 k, .int .u32 id, .int .u64 v]] W fun e w' => e = .returned (.string (bs (lineL k id v))) ∧ Fr NoF W w') := fun W f => line_calls (hT.fr f) k hid hv
  have HLX : Hid (∀ (kx : Int) (ix vx : Nat), ix < 4294967296 → vx < 18446744073709551616 → lineL kx ix vx = l → ∀ W, Fr NoF w W → Calls Tryd.prog 11 #[.agg #[.int .i64 kx, .int .u32 ix, .int .u64 vx]] W fun e w' => e = .returned (.string (bs l)) ∧ Fr NoF W w') := fun kx ix vx h1 h2 h3 W f => by rw [← h3]; exact line_calls (hT.fr f) kx h1 h2
  have HRL : Hid (∀ W, Calls Tryd.prog 12 #[.agg #[.int .i64 k, .int .u32 id, .int .u64 v]] W fun e w' => e = .returned (.string (bs (lineL k id v))) ∧ Fr NoF W w') := fun W => rline_calls k hid hv
  have HPW : Hid (∀ W, Fr NoF w W → Calls Tryd.prog 9 #[.string (bs (lineL k id v))] W fun e w' => ∃ (kz : Int) (iz vz fz : Nat), e = .returned (.tuple #[.agg #[.int .i64 kz, .int .u32 iz, .int .u64 vz], .int .i64 fz]) ∧ ((¬ lineL k id v = [] ∧ kz = k ∧ iz = id ∧ vz = v ∧ fz = 0) ∨ (lineL k id v = [] ∧ fz = 8)) ∧ Fr NoF W w') := fun W f =>
    (parse_calls (hT.fr f) (Nat.le_trans (line_len k hid hv) (by decide))).mono fun e w' ⟨kz, iz, vz, fz, he, hp, g⟩ => ⟨kz, iz, vz, fz, he, by
      by_cases h : lineL k id v = []
      · rw [h] at hp
        obtain ⟨_, _, _, q⟩ := parse_uniq hp parse_empty
        exact .inr ⟨h, q⟩
      · obtain ⟨q1, q2, q3, q4⟩ := parse_uniq hp (parse_line hid hv h)
        exact .inl ⟨h, q1, q2, q3, q4⟩, g⟩
  have HTL : Hid (∀ W, Fr NoF w W → Calls Tryd.prog 13 #[.agg #[.int .i64 k, .int .u32 id, .int .u64 v], .agg #[.int .i64 er, .int .u32 aid, .int .u64 av]] W fun e w' => e = .returned (.string (bs (toldL k er aid av))) ∧ Fr NoF W w') := fun W f => told_calls (hT.fr f) k her haid hav
  have HRT : Hid (∀ W, Calls Tryd.prog 14 #[.agg #[.int .i64 k, .int .u32 id, .int .u64 v], .agg #[.int .i64 er, .int .u32 aid, .int .u64 av]] W fun e w' => e = .returned (.string (bs (toldL k er aid av))) ∧ Fr NoF W w') := fun W => rtold_calls k her haid hav
  have HEW : Hid ((bs (lineL k id v)).toList = [] ↔ lineL k id v = []) := by unfold Hid; rw [empty_list]
  clear hT hl
  generalize bs (toldL k er aid av) = sT at *
  generalize bs (lineL k id v) = sW at *
  generalize hsl : bs l = sl at *
  have HSL := Lib.hid hsl
  clear hsl
  go_enter Tryd.func4, Tryd.ntmps4
  go_wp2_with fail
  have B3 := Lib.hid ((blk3 (w := w) (.int .i64 k) (.int .u32 (id : Nat)) (.int .u64 (v : Nat)) (t := 40)).alloc (.cells #[.int .i64 (er : Nat), .int .u32 (aid : Nat), .int .u64 (av : Nat)] 43))
  have B5' := blk3 (w := w.alloc (.cells #[.int .i64 k, .int .u32 (id : Nat), .int .u64 (v : Nat)] 40)) (.int .i64 (er : Nat)) (.int .u32 (aid : Nat)) (.int .u64 (av : Nat)) (t := 43)
  rw [World.size_alloc] at B5'
  have B5 := Lib.hid B5'
  clear B5'
  refine (HP.out _ (((Fr.refl _ _).alloc _).alloc _)).mono ?_
  rintro e w1 ⟨kx, ix, vx, ex, rfl, hp, h1⟩
  have H1 := Lib.hid (Fr.trans (F := NoF) (((Fr.refl NoF w).alloc _).alloc _) h1 (fun _ q => q.elim))
  have B3 := Lib.hid (B3.out.fr h1 (fun q => q))
  have B5 := Lib.hid (B5.out.fr h1 (fun q => q))
  have B7 := Lib.hid (blk3 (w := w1) (.int .i64 kx) (.int .u32 (ix : Nat)) (.int .u64 (vx : Nat)) (t := 38))
  clear h1
  go_wp2_with fail
  refine (HQ.out _).mono ?_
  rintro e w2 ⟨ky, iy, vy, ok, rfl, hq, h2⟩
  obtain ⟨rfl, rfl, rfl, hex⟩ := parse_uniq hq hp
  have HPX := Lib.hid hp
  have H2 := Lib.hid (Fr.trans (F := NoF) (H1.out.alloc _) h2 (fun _ q => q.elim))
  have B3 := Lib.hid ((B3.out.alloc _).fr h2 (fun q => q))
  have B5 := Lib.hid ((B5.out.alloc _).fr h2 (fun q => q))
  have B7 := Lib.hid (B7.out.fr h2 (fun q => q))
  have B9 := Lib.hid (blk3 (w := w2) (.int .i64 ky) (.int .u32 (iy : Nat)) (.int .u64 (vy : Nat)) (t := 40))
  have HEX := Lib.hid hex
  clear h2 hp hq hex
  obtain ⟨o0, o1, o2⟩ := B3.out.three
  have ol := B3.out.lt
  go_wp2_with fail
  refine (HTO.out k id v _).mono ?_
  rintro e w3 ⟨rfl, h3⟩
  have H3 := Lib.hid (Fr.trans (F := NoF) (H2.out.alloc _) h3 (fun _ q => q.elim))
  have B3 := Lib.hid ((B3.out.alloc _).fr h3 (fun q => q))
  have B5 := Lib.hid ((B5.out.alloc _).fr h3 (fun q => q))
  have B7 := Lib.hid ((B7.out.alloc _).fr h3 (fun q => q))
  have B9 := Lib.hid (B9.out.fr h3 (fun q => q))
  clear h3 o0 o1 o2 ol
  go_wp2_with fail
  refine (HLN.out _ H3.out).mono ?_
  rintro e w4 ⟨rfl, h4⟩
  have H4 := Lib.hid (H3.out.trans h4 (fun _ q => q.elim))
  have B3 := Lib.hid (B3.out.fr h4 (fun q => q))
  have B5 := Lib.hid (B5.out.fr h4 (fun q => q))
  have B7 := Lib.hid (B7.out.fr h4 (fun q => q))
  have B9 := Lib.hid (B9.out.fr h4 (fun q => q))
  clear h4
  go_wp2_with fail
  refine (HPW.out _ H4.out).mono ?_
  rintro e w5 ⟨kz, iz, vz, fz, rfl, hz5, h5⟩
  have HZ5 := Lib.hid hz5
  have H5 := Lib.hid ((H4.out.trans h5 (fun _ q => q.elim)).alloc (.cells #[.int .i64 kz, .int .u32 (iz : Nat), .int .u64 (vz : Nat)] 38))
  have B3 := Lib.hid ((B3.out.fr h5 (fun q => q)).alloc (.cells #[.int .i64 kz, .int .u32 (iz : Nat), .int .u64 (vz : Nat)] 38))
  have B5 := Lib.hid ((B5.out.fr h5 (fun q => q)).alloc (.cells #[.int .i64 kz, .int .u32 (iz : Nat), .int .u64 (vz : Nat)] 38))
  have B7 := Lib.hid ((B7.out.fr h5 (fun q => q)).alloc (.cells #[.int .i64 kz, .int .u32 (iz : Nat), .int .u64 (vz : Nat)] 38))
  have B9 := Lib.hid ((B9.out.fr h5 (fun q => q)).alloc (.cells #[.int .i64 kz, .int .u32 (iz : Nat), .int .u64 (vz : Nat)] 38))
  have B12 := Lib.hid (blk3 (w := w5) (.int .i64 kz) (.int .u32 (iz : Nat)) (.int .u64 (vz : Nat)) (t := 38))
  clear h5 hz5 H1 H2 H3 H4 HP HQ HPW HLN
  go_upto_region 7 with fail
  generalize hwz : w5.alloc (.cells #[.int .i64 kz, .int .u32 (iz : Nat), .int .u64 (vz : Nat)] 38) = wz at *
  clear hwz
  generalize w1.heap.size = b7 at *
  generalize w2.heap.size = b9 at *
  generalize w5.heap.size = b12 at *
  have HTD2 : Hid (∀ W, Fr NoF wz W → Calls Tryd.prog 7 #[] W fun e w' => e = .returned (.bool true) ∧ Fr NoF wz w') := fun W f => (HTD.out W (H5.out.trans f (fun _ q => q.elim))).mono fun e w' ⟨he, g⟩ => ⟨he, f.trans g (fun _ q => q.elim)⟩
  have HTO2 : Hid (∀ (k id x : Int) W, Fr NoF wz W → Calls Tryd.prog 8 #[.agg #[.int .i64 k, .int .u32 id, .int .u64 x]] W fun e w' => e = .returned (.agg #[.int .i64 k, .int .u32 id, .int .u64 x]) ∧ Fr NoF wz w') := fun k id x W f => (HTO.out k id x W).mono fun e w' ⟨he, g⟩ => ⟨he, f.trans g (fun _ q => q.elim)⟩
  have HTL2 : Hid (∀ W, Fr NoF wz W → Calls Tryd.prog 13 #[.agg #[.int .i64 k, .int .u32 id, .int .u64 v], .agg #[.int .i64 er, .int .u32 aid, .int .u64 av]] W fun e w' => e = .returned (.string sT) ∧ Fr NoF wz w') := fun W f => (HTL.out W (H5.out.trans f (fun _ q => q.elim))).mono fun e w' ⟨he, g⟩ => ⟨he, f.trans g (fun _ q => q.elim)⟩
  have HRT2 : Hid (∀ W, Fr NoF wz W → Calls Tryd.prog 14 #[.agg #[.int .i64 k, .int .u32 id, .int .u64 v], .agg #[.int .i64 er, .int .u32 aid, .int .u64 av]] W fun e w' => e = .returned (.string sT) ∧ Fr NoF wz w') := fun W f => (HRT.out W).mono fun e w' ⟨he, g⟩ => ⟨he, f.trans g (fun _ q => q.elim)⟩
  have KS2 : Hid (∀ W, Fr NoF wz W → (fun w' => w'.cell? ⟨w.heap.size, 0, none⟩ = some (.int .i64 k) ∧ w'.cell? ⟨w.heap.size, 1, none⟩ = some (.int .u32 (id : Nat)) ∧ w'.cell? ⟨w.heap.size, 2, none⟩ = some (.int .u64 (v : Nat)) ∧ w'.cell? ⟨w.heap.size + 1, 0, none⟩ = some (.int .i64 (er : Nat)) ∧ w'.cell? ⟨w.heap.size + 1, 1, none⟩ = some (.int .u32 (aid : Nat)) ∧ w'.cell? ⟨w.heap.size + 1, 2, none⟩ = some (.int .u64 (av : Nat))) W) := fun W f => ⟨(B3.out.fr f (fun q => q)).three.1, (B3.out.fr f (fun q => q)).three.2.1, (B3.out.fr f (fun q => q)).three.2.2, (B5.out.fr f (fun q => q)).three.1, (B5.out.fr f (fun q => q)).three.2.1, (B5.out.fr f (fun q => q)).three.2.2⟩
  have HRL2 : Hid (∀ W, Fr NoF wz W → Calls Tryd.prog 12 #[.agg #[.int .i64 k, .int .u32 id, .int .u64 v]] W fun e w' => e = .returned (.string sW) ∧ Fr NoF wz w') := fun W f => (HRL.out W).mono fun e w' ⟨he, g⟩ => ⟨he, f.trans g (fun _ q => q.elim)⟩
  cases ok with
  | true =>
    have e0 : ex = 0 := HEX.out.symm
    subst e0
    have HLX2 : Hid (∀ W, Fr NoF wz W → Calls Tryd.prog 11 #[.agg #[.int .i64 ky, .int .u32 iy, .int .u64 vy]] W fun e w' => e = .returned (.string sl) ∧ Fr NoF wz w') := fun W f => by
      obtain ⟨q1, q2, q3⟩ := HPX.out
      rcases q3 with ⟨_, _, q3⟩ | ⟨q3, _⟩
      · exact (HLX.out ky iy vy q1 q2 q3 W (H5.out.trans f (fun _ q => q.elim))).mono fun e w' ⟨he, g⟩ => ⟨he, f.trans g (fun _ q => q.elim)⟩
      · exact absurd q3 (by decide)
    clear HLX HTD HTO HRL HEX HPX
    rcases HZ5.out with ⟨hne, e1, e2, e3, rfl⟩ | ⟨hem, rfl⟩
    · clear HZ5
      have e1' := e1.symm
      have e2' := e2.symm
      have e3' := e3.symm
      clear e1 e2 e3
      subst e1' e2' e3'
      have qw1 : ¬ sW.toList = [] := fun q => hne (HEW.out.1 q)
      have qw2 : sW.toList.isEmpty = false := by cases h : sW.toList with
        | nil => exact (qw1 h).elim
        | cons => rfl
      have qw3 : (sW.toList == []) = false := by cases h : sW.toList with
        | nil => exact (qw1 h).elim
        | cons => rfl
      clear hne
      have KS : Hid (∀ W, Fr NoF wz W → (fun w' => w'.cell? ⟨w.heap.size, 0, none⟩ = some (.int .i64 k) ∧ w'.cell? ⟨w.heap.size, 1, none⟩ = some (.int .u32 (id : Nat)) ∧ w'.cell? ⟨w.heap.size, 2, none⟩ = some (.int .u64 (v : Nat)) ∧ w'.cell? ⟨b7, 0, none⟩ = some (.int .i64 ky) ∧ w'.cell? ⟨b7, 1, none⟩ = some (.int .u32 (iy : Nat)) ∧ w'.cell? ⟨b7, 2, none⟩ = some (.int .u64 (vy : Nat)) ∧ w'.cell? ⟨b9, 0, none⟩ = some (.int .i64 ky) ∧ w'.cell? ⟨b9, 1, none⟩ = some (.int .u32 (iy : Nat)) ∧ w'.cell? ⟨b9, 2, none⟩ = some (.int .u64 (vy : Nat)) ∧ w'.cell? ⟨b12, 0, none⟩ = some (.int .i64 k) ∧ w'.cell? ⟨b12, 1, none⟩ = some (.int .u32 (id : Nat)) ∧ w'.cell? ⟨b12, 2, none⟩ = some (.int .u64 (v : Nat))) W) := fun W f =>
        ⟨(B3.out.fr f (fun q => q)).three.1, (B3.out.fr f (fun q => q)).three.2.1, (B3.out.fr f (fun q => q)).three.2.2, (B7.out.fr f (fun q => q)).three.1, (B7.out.fr f (fun q => q)).three.2.1, (B7.out.fr f (fun q => q)).three.2.2, (B9.out.fr f (fun q => q)).three.1, (B9.out.fr f (fun q => q)).three.2.1, (B9.out.fr f (fun q => q)).three.2.2, (B12.out.fr f (fun q => q)).three.1, (B12.out.fr f (fun q => q)).three.2.1, (B12.out.fr f (fun q => q)).three.2.2⟩
      refine wp_region_held_drew (S := (fun w' => w'.cell? ⟨w.heap.size, 0, none⟩ = some (.int .i64 k) ∧ w'.cell? ⟨w.heap.size, 1, none⟩ = some (.int .u32 (id : Nat)) ∧ w'.cell? ⟨w.heap.size, 2, none⟩ = some (.int .u64 (v : Nat)) ∧ w'.cell? ⟨b7, 0, none⟩ = some (.int .i64 ky) ∧ w'.cell? ⟨b7, 1, none⟩ = some (.int .u32 (iy : Nat)) ∧ w'.cell? ⟨b7, 2, none⟩ = some (.int .u64 (vy : Nat)) ∧ w'.cell? ⟨b9, 0, none⟩ = some (.int .i64 ky) ∧ w'.cell? ⟨b9, 1, none⟩ = some (.int .u32 (iy : Nat)) ∧ w'.cell? ⟨b9, 2, none⟩ = some (.int .u64 (vy : Nat)) ∧ w'.cell? ⟨b12, 0, none⟩ = some (.int .i64 k) ∧ w'.cell? ⟨b12, 1, none⟩ = some (.int .u32 (id : Nat)) ∧ w'.cell? ⟨b12, 2, none⟩ = some (.int .u64 (v : Nat)))) (by kernel_rfl) ?_ (fun hHeld => ?_)
      · (try dsimp only); exact KS.out _ (by repeat (first | exact Fr.refl NoF _ | exact Hd.out | exact Hc.out | exact Hb.out | exact Ha.out | apply Fr.drew | apply Fr.drewN | apply Fr.alloc))
      refine wpAnyH_ready (rs := [0]) (by kernel_rfl) (by simp) ?_
      refine AllReadyH.cons (o := (⟨some 46, Op.call ⟨Callee.value (Operand.func 7), #[], #[]⟩, 4, "law.go:80", #[], none⟩ : Oper)) rfl (fun K hK => ?_) AllReadyH.nil
      go_simp
      go_at_call 7; (with_reducible refine (HTD2.out _ (by repeat (first | exact Fr.refl NoF _ | exact Hd.out | exact Hc.out | exact Hb.out | exact Ha.out | apply Fr.drew | apply Fr.drewN | apply Fr.alloc))).mono ?_); rintro e wa ⟨rfl, ha⟩; have Ha := Lib.hid ha; clear ha
      go_wp2_with fail
      refine hK.out _ _ ?_ (fun hHeld2 => ?_)
      · (try dsimp only); exact KS.out _ (by repeat (first | exact Fr.refl NoF _ | exact Hd.out | exact Hc.out | exact Hb.out | exact Ha.out | apply Fr.drew | apply Fr.drewN | apply Fr.alloc))
      clear hK K
      try simp only [Act.put, List.setIfInBounds_toArray, List.set_cons_zero, List.set_cons_succ]
      refine wpAnyH_take (i := 1) (oi := (⟨some 47, Op.unOp UnOp.not 4 (Operand.tmp 46), 4, "law.go:80", #[⟨0, Ground.data⟩], none⟩ : Oper)) (v := ?_) rfl (by kernel_rfl) (by kernel_rfl) (by kernel_rfl) (fun _ _ _ h => h) (Or.inl ⟨by rfl, ?_⟩) (by assumption) ?_
      rotate_left
      · intro w hSw; (try dsimp only at hSw); go_simp; (try with_reducible rfl)
      simp only [Act.put, List.setIfInBounds_toArray, List.set_cons_zero, List.set_cons_succ]
      refine wpAnyH_take (i := 2) (oi := (⟨some 48, Op.move (Operand.tmp 47), 4, "law.go:80", #[⟨1, Ground.data⟩, ⟨0, Ground.chain⟩], none⟩ : Oper)) (v := ?_) rfl (by kernel_rfl) (by kernel_rfl) (by kernel_rfl) (fun _ _ _ h => h) (Or.inl ⟨by rfl, ?_⟩) (by assumption) ?_
      rotate_left
      · intro w hSw; (try dsimp only at hSw); go_simp; (try with_reducible rfl)
      simp only [Act.put, List.setIfInBounds_toArray, List.set_cons_zero, List.set_cons_succ]
      refine wpAnyH_take (i := 3) (oi := (⟨some 49, Op.load 38 (Operand.tmp 7), 38, "law.go:80", #[⟨2, Ground.guard⟩], some (2, false)⟩ : Oper)) (v := ?_) rfl (by kernel_rfl) (by kernel_rfl) (by kernel_rfl) (fun _ _ _ h => h) (Or.inl ⟨by rfl, ?_⟩) (by assumption) ?_
      rotate_left
      · intro w hSw; (try dsimp only at hSw); go_simp; (try with_reducible rfl)
      simp only [Act.put, List.setIfInBounds_toArray, List.set_cons_zero, List.set_cons_succ]
      refine wpAnyH_take (i := 4) (oi := (⟨some 50, Op.load 40 (Operand.tmp 9), 40, "law.go:80", #[⟨2, Ground.guard⟩], some (2, false)⟩ : Oper)) (v := ?_) rfl (by kernel_rfl) (by kernel_rfl) (by kernel_rfl) (fun _ _ _ h => h) (Or.inl ⟨by rfl, ?_⟩) (by assumption) ?_
      rotate_left
      · intro w hSw; (try dsimp only at hSw); go_simp; (try with_reducible rfl)
      simp only [Act.put, List.setIfInBounds_toArray, List.set_cons_zero, List.set_cons_succ]
      refine wpAnyH_ready (rs := [5]) (by kernel_rfl) (by simp) ?_
      refine AllReadyH.cons (o := (⟨some 51, Op.call ⟨Callee.value (Operand.func 8), #[Operand.tmp 50], #[40]⟩, 38, "law.go:80", #[⟨4, Ground.data⟩, ⟨2, Ground.chain⟩, ⟨2, Ground.guard⟩], some (2, false)⟩ : Oper)) rfl (fun K hK => ?_) AllReadyH.nil
      go_simp
      go_at_call 8; (with_reducible refine (HTO2.out _ _ _ _ (by repeat (first | exact Fr.refl NoF _ | exact Hd.out | exact Hc.out | exact Hb.out | exact Ha.out | apply Fr.drew | apply Fr.drewN | apply Fr.alloc))).mono ?_); rintro e wb ⟨rfl, hb⟩; have Hb := Lib.hid hb; clear hb
      go_wp2_with fail
      refine hK.out _ _ ?_ (fun hHeld2 => ?_)
      · (try dsimp only); exact KS.out _ (by repeat (first | exact Fr.refl NoF _ | exact Hd.out | exact Hc.out | exact Hb.out | exact Ha.out | apply Fr.drew | apply Fr.drewN | apply Fr.alloc))
      clear hK K
      try simp only [Act.put, List.setIfInBounds_toArray, List.set_cons_zero, List.set_cons_succ]
      refine wpAnyH_take (i := 6) (oi := (⟨some 52, Op.binOp BinOp.neq 38 (Operand.tmp 49) (Operand.tmp 51) 38, 4, "law.go:80", #[⟨3, Ground.data⟩, ⟨5, Ground.data⟩, ⟨2, Ground.guard⟩], some (2, false)⟩ : Oper)) (v := ?_) rfl (by kernel_rfl) (by kernel_rfl) (by kernel_rfl) (fun _ _ _ h => h) (Or.inl ⟨by rfl, ?_⟩) (by assumption) ?_
      rotate_left
      · intro w hSw; (try dsimp only at hSw); go_simp; (try with_reducible rfl)
      simp only [Act.put, List.setIfInBounds_toArray, List.set_cons_zero, List.set_cons_succ]
      refine wpAnyH_take (i := 7) (oi := (⟨some 53, Op.pick (Operand.tmp 48) (Operand.const (Value.bool true)) (Operand.tmp 52), 4, "law.go:80", #[⟨2, Ground.data⟩, ⟨6, Ground.data⟩], none⟩ : Oper)) (v := ?_) rfl (by kernel_rfl) (by kernel_rfl) (by kernel_rfl) (fun _ _ _ h => h) (Or.inl ⟨by rfl, ?_⟩) (by assumption) ?_
      rotate_left
      · intro w hSw; (try dsimp only at hSw); go_simp; (try with_reducible rfl)
      simp only [Act.put, List.setIfInBounds_toArray, List.set_cons_zero, List.set_cons_succ]
      refine wpAnyH_take (i := 8) (oi := (⟨some 54, Op.move (Operand.tmp 53), 4, "law.go:80", #[⟨7, Ground.data⟩, ⟨5, Ground.chain⟩], none⟩ : Oper)) (v := ?_) rfl (by kernel_rfl) (by kernel_rfl) (by kernel_rfl) (fun _ _ _ h => h) (Or.inl ⟨by rfl, ?_⟩) (by assumption) ?_
      rotate_left
      · intro w hSw; (try dsimp only at hSw); go_simp; (try with_reducible rfl)
      simp only [Act.put, List.setIfInBounds_toArray, List.set_cons_zero, List.set_cons_succ]
      refine wpAnyH_take (i := 9) (oi := (⟨some 55, Op.move (Operand.tmp 8), 44, "law.go:80", #[⟨8, Ground.guard⟩], some (8, false)⟩ : Oper)) (v := ?_) rfl (by kernel_rfl) (by kernel_rfl) (by kernel_rfl) (fun _ _ _ h => h) (Or.inl ⟨by rfl, ?_⟩) (by assumption) ?_
      rotate_left
      · intro w hSw; (try dsimp only at hSw); go_simp; (try with_reducible rfl)
      simp only [Act.put, List.setIfInBounds_toArray, List.set_cons_zero, List.set_cons_succ]
      refine wpAnyH_take (i := 10) (oi := (⟨some 56, Op.binOp BinOp.eql 44 (Operand.tmp 55) (Operand.const (Value.int IntKind.i64 0)) 44, 4, "law.go:80", #[⟨9, Ground.data⟩, ⟨8, Ground.guard⟩], some (8, false)⟩ : Oper)) (v := ?_) rfl (by kernel_rfl) (by kernel_rfl) (by kernel_rfl) (fun _ _ _ h => h) (Or.inl ⟨by rfl, ?_⟩) (by assumption) ?_
      rotate_left
      · intro w hSw; (try dsimp only at hSw); go_simp; (try with_reducible rfl)
      simp only [Act.put, List.setIfInBounds_toArray, List.set_cons_zero, List.set_cons_succ]
      refine wpAnyH_take (i := 11) (oi := (⟨some 57, Op.move (Operand.tmp 10), 4, "law.go:80", #[⟨8, Ground.guard⟩], some (8, false)⟩ : Oper)) (v := ?_) rfl (by kernel_rfl) (by kernel_rfl) (by kernel_rfl) (fun _ _ _ h => h) (Or.inl ⟨by rfl, ?_⟩) (by assumption) ?_
      rotate_left
      · intro w hSw; (try dsimp only at hSw); go_simp; (try with_reducible rfl)
      simp only [Act.put, List.setIfInBounds_toArray, List.set_cons_zero, List.set_cons_succ]
      refine wpAnyH_take (i := 12) (oi := (⟨some 58, Op.binOp BinOp.neq 4 (Operand.tmp 56) (Operand.tmp 57) 4, 4, "law.go:80", #[⟨10, Ground.data⟩, ⟨11, Ground.data⟩, ⟨8, Ground.guard⟩], some (8, false)⟩ : Oper)) (v := ?_) rfl (by kernel_rfl) (by kernel_rfl) (by kernel_rfl) (fun _ _ _ h => h) (Or.inl ⟨by rfl, ?_⟩) (by assumption) ?_
      rotate_left
      · intro w hSw; (try dsimp only at hSw); go_simp; (try with_reducible rfl)
      simp only [Act.put, List.setIfInBounds_toArray, List.set_cons_zero, List.set_cons_succ]
      refine wpAnyH_take (i := 13) (oi := (⟨some 59, Op.pick (Operand.tmp 54) (Operand.const (Value.bool true)) (Operand.tmp 58), 4, "law.go:80", #[⟨8, Ground.data⟩, ⟨12, Ground.data⟩], none⟩ : Oper)) (v := ?_) rfl (by kernel_rfl) (by kernel_rfl) (by kernel_rfl) (fun _ _ _ h => h) (Or.inl ⟨by rfl, ?_⟩) (by assumption) ?_
      rotate_left
      · intro w hSw; (try dsimp only at hSw); go_simp; (try with_reducible rfl)
      simp only [Act.put, List.setIfInBounds_toArray, List.set_cons_zero, List.set_cons_succ]
      refine wpAnyH_take (i := 14) (oi := (⟨some 60, Op.move (Operand.tmp 59), 4, "law.go:80", #[⟨13, Ground.data⟩, ⟨8, Ground.chain⟩], none⟩ : Oper)) (v := ?_) rfl (by kernel_rfl) (by kernel_rfl) (by kernel_rfl) (fun _ _ _ h => h) (Or.inl ⟨by rfl, ?_⟩) (by assumption) ?_
      rotate_left
      · intro w hSw; (try dsimp only at hSw); go_simp; (try with_reducible rfl)
      simp only [Act.put, List.setIfInBounds_toArray, List.set_cons_zero, List.set_cons_succ]
      refine wpAnyH_take (i := 15) (oi := (⟨some 61, Op.move (Operand.tmp 10), 4, "law.go:80", #[⟨14, Ground.guard⟩], some (14, false)⟩ : Oper)) (v := ?_) rfl (by kernel_rfl) (by kernel_rfl) (by kernel_rfl) (fun _ _ _ h => h) (Or.inl ⟨by rfl, ?_⟩) (by assumption) ?_
      rotate_left
      · intro w hSw; (try dsimp only at hSw); go_simp; (try with_reducible rfl)
      simp only [Act.put, List.setIfInBounds_toArray, List.set_cons_zero, List.set_cons_succ]
      refine wpAnyH_take (i := 16) (oi := (⟨some 62, Op.unOp UnOp.not 4 (Operand.tmp 61), 4, "law.go:80", #[⟨15, Ground.data⟩, ⟨14, Ground.guard⟩], some (14, false)⟩ : Oper)) (v := ?_) rfl (by kernel_rfl) (by kernel_rfl) (by kernel_rfl) (fun _ _ _ h => h) (Or.inl ⟨by rfl, ?_⟩) (by assumption) ?_
      rotate_left
      · intro w hSw; (try dsimp only at hSw); go_simp; (try with_reducible rfl)
      simp only [Act.put, List.setIfInBounds_toArray, List.set_cons_zero, List.set_cons_succ]
      refine wpAnyH_take (i := 17) (oi := (⟨some 63, Op.move (Operand.tmp 62), 4, "law.go:80", #[⟨16, Ground.data⟩, ⟨14, Ground.chain⟩, ⟨14, Ground.guard⟩], some (14, false)⟩ : Oper)) (v := ?_) rfl (by kernel_rfl) (by kernel_rfl) (by kernel_rfl) (fun _ _ _ h => h) (Or.inl ⟨by rfl, ?_⟩) (by assumption) ?_
      rotate_left
      · intro w hSw; (try dsimp only at hSw); go_simp; (try with_reducible rfl)
      simp only [Act.put, List.setIfInBounds_toArray, List.set_cons_zero, List.set_cons_succ]
      refine wpAnyH_take (i := 18) (oi := (⟨some 64, Op.move (Operand.tmp 8), 44, "law.go:80", #[⟨17, Ground.guard⟩], some (17, true)⟩ : Oper)) (v := undef) rfl (by kernel_rfl) (by kernel_rfl) (by kernel_rfl) (fun _ _ _ h => h) (Or.inr ⟨by rfl, rfl⟩) (by assumption) ?_
      simp only [Act.put, List.setIfInBounds_toArray, List.set_cons_zero, List.set_cons_succ]
      refine wpAnyH_take (i := 19) (oi := (⟨some 65, Op.binOp BinOp.neq 44 (Operand.tmp 64) (Operand.const (Value.int IntKind.i64 8)) 44, 4, "law.go:80", #[⟨18, Ground.data⟩, ⟨17, Ground.guard⟩], some (17, true)⟩ : Oper)) (v := undef) rfl (by kernel_rfl) (by kernel_rfl) (by kernel_rfl) (fun _ _ _ h => h) (Or.inr ⟨by rfl, rfl⟩) (by assumption) ?_
      simp only [Act.put, List.setIfInBounds_toArray, List.set_cons_zero, List.set_cons_succ]
      refine wpAnyH_take (i := 20) (oi := (⟨some 66, Op.pick (Operand.tmp 63) (Operand.tmp 65) (Operand.const (Value.bool false)), 4, "law.go:80", #[⟨17, Ground.data⟩, ⟨19, Ground.data⟩, ⟨14, Ground.guard⟩], some (14, false)⟩ : Oper)) (v := ?_) rfl (by kernel_rfl) (by kernel_rfl) (by kernel_rfl) (fun _ _ _ h => h) (Or.inl ⟨by rfl, ?_⟩) (by assumption) ?_
      rotate_left
      · intro w hSw; (try dsimp only at hSw); go_simp; (try with_reducible rfl)
      simp only [Act.put, List.setIfInBounds_toArray, List.set_cons_zero, List.set_cons_succ]
      refine wpAnyH_take (i := 21) (oi := (⟨some 67, Op.pick (Operand.tmp 60) (Operand.const (Value.bool true)) (Operand.tmp 66), 4, "law.go:80", #[⟨14, Ground.data⟩, ⟨20, Ground.data⟩], none⟩ : Oper)) (v := ?_) rfl (by kernel_rfl) (by kernel_rfl) (by kernel_rfl) (fun _ _ _ h => h) (Or.inl ⟨by rfl, ?_⟩) (by assumption) ?_
      rotate_left
      · intro w hSw; (try dsimp only at hSw); go_simp; (try with_reducible rfl)
      simp only [Act.put, List.setIfInBounds_toArray, List.set_cons_zero, List.set_cons_succ]
      refine wpAnyH_take (i := 22) (oi := (⟨some 68, Op.move (Operand.tmp 67), 4, "law.go:80", #[⟨21, Ground.data⟩, ⟨17, Ground.chain⟩], none⟩ : Oper)) (v := ?_) rfl (by kernel_rfl) (by kernel_rfl) (by kernel_rfl) (fun _ _ _ h => h) (Or.inl ⟨by rfl, ?_⟩) (by assumption) ?_
      rotate_left
      · intro w hSw; (try dsimp only at hSw); go_simp; (try with_reducible rfl)
      simp only [Act.put, List.setIfInBounds_toArray, List.set_cons_zero, List.set_cons_succ]
      refine wpAnyH_take (i := 23) (oi := (⟨some 69, Op.move (Operand.tmp 10), 4, "law.go:80", #[⟨22, Ground.guard⟩], some (22, false)⟩ : Oper)) (v := ?_) rfl (by kernel_rfl) (by kernel_rfl) (by kernel_rfl) (fun _ _ _ h => h) (Or.inl ⟨by rfl, ?_⟩) (by assumption) ?_
      rotate_left
      · intro w hSw; (try dsimp only at hSw); go_simp; (try with_reducible rfl)
      simp only [Act.put, List.setIfInBounds_toArray, List.set_cons_zero, List.set_cons_succ]
      refine wpAnyH_take (i := 24) (oi := (⟨some 70, Op.move (Operand.tmp 69), 4, "law.go:80", #[⟨23, Ground.data⟩, ⟨22, Ground.chain⟩, ⟨22, Ground.guard⟩], some (22, false)⟩ : Oper)) (v := ?_) rfl (by kernel_rfl) (by kernel_rfl) (by kernel_rfl) (fun _ _ _ h => h) (Or.inl ⟨by rfl, ?_⟩) (by assumption) ?_
      rotate_left
      · intro w hSw; (try dsimp only at hSw); go_simp; (try with_reducible rfl)
      simp only [Act.put, List.setIfInBounds_toArray, List.set_cons_zero, List.set_cons_succ]
      refine wpAnyH_take (i := 25) (oi := (⟨some 71, Op.load 38 (Operand.tmp 7), 38, "law.go:80", #[⟨24, Ground.guard⟩], some (24, true)⟩ : Oper)) (v := ?_) rfl (by kernel_rfl) (by kernel_rfl) (by kernel_rfl) (fun _ _ _ h => h) (Or.inl ⟨by rfl, ?_⟩) (by assumption) ?_
      rotate_left
      · intro w hSw; (try dsimp only at hSw); go_simp; (try with_reducible rfl)
      simp only [Act.put, List.setIfInBounds_toArray, List.set_cons_zero, List.set_cons_succ]
      refine wpAnyH_take (i := 27) (oi := (⟨some 73, Op.move (Operand.tmp 1), 9, "law.go:80", #[⟨24, Ground.guard⟩], some (24, true)⟩ : Oper)) (v := ?_) rfl (by kernel_rfl) (by kernel_rfl) (by kernel_rfl) (fun _ _ _ h => h) (Or.inl ⟨by rfl, ?_⟩) (by assumption) ?_
      rotate_left
      · intro w hSw; (try dsimp only at hSw); go_simp; (try with_reducible rfl)
      simp only [Act.put, List.setIfInBounds_toArray, List.set_cons_zero, List.set_cons_succ]
      refine wpAnyH_ready (rs := [26]) (by kernel_rfl) (by simp) ?_
      refine AllReadyH.cons (o := (⟨some 72, Op.call ⟨Callee.value (Operand.func 11), #[Operand.tmp 71], #[38]⟩, 9, "law.go:80", #[⟨25, Ground.data⟩, ⟨24, Ground.chain⟩, ⟨24, Ground.guard⟩], some (24, true)⟩ : Oper)) rfl (fun K hK => ?_) AllReadyH.nil
      go_simp
      go_at_call 11; (with_reducible refine (HLX2.out _ (by repeat (first | exact Fr.refl NoF _ | exact Hd.out | exact Hc.out | exact Hb.out | exact Ha.out | apply Fr.drew | apply Fr.drewN | apply Fr.alloc))).mono ?_); rintro e wc ⟨rfl, hc⟩; have Hc := Lib.hid hc; clear hc
      go_wp2_with fail
      refine hK.out _ _ ?_ (fun hHeld2 => ?_)
      · (try dsimp only); exact KS.out _ (by repeat (first | exact Fr.refl NoF _ | exact Hd.out | exact Hc.out | exact Hb.out | exact Ha.out | apply Fr.drew | apply Fr.drewN | apply Fr.alloc))
      clear hK K
      try simp only [Act.put, List.setIfInBounds_toArray, List.set_cons_zero, List.set_cons_succ]
      refine wpAnyH_take (i := 28) (oi := (⟨some 74, Op.binOp BinOp.neq 9 (Operand.tmp 72) (Operand.tmp 73) 9, 4, "law.go:80", #[⟨26, Ground.data⟩, ⟨27, Ground.data⟩, ⟨24, Ground.guard⟩], some (24, true)⟩ : Oper)) (v := ?_) rfl (by kernel_rfl) (by kernel_rfl) (by kernel_rfl) (fun _ _ _ h => h) (Or.inl ⟨by rfl, ?_⟩) (by assumption) ?_
      rotate_left
      · intro w hSw; (try dsimp only at hSw); go_simp; (try with_reducible rfl)
      simp only [Act.put, List.setIfInBounds_toArray, List.set_cons_zero, List.set_cons_succ]
      refine wpAnyH_take (i := 29) (oi := (⟨some 75, Op.pick (Operand.tmp 70) (Operand.tmp 74) (Operand.const (Value.bool false)), 4, "law.go:80", #[⟨24, Ground.data⟩, ⟨28, Ground.data⟩, ⟨22, Ground.guard⟩], some (22, false)⟩ : Oper)) (v := ?_) rfl (by kernel_rfl) (by kernel_rfl) (by kernel_rfl) (fun _ _ _ h => h) (Or.inl ⟨by rfl, ?_⟩) (by assumption) ?_
      rotate_left
      · intro w hSw; (try dsimp only at hSw); go_simp; (try with_reducible rfl)
      simp only [Act.put, List.setIfInBounds_toArray, List.set_cons_zero, List.set_cons_succ]
      refine wpAnyH_take (i := 30) (oi := (⟨some 76, Op.pick (Operand.tmp 68) (Operand.const (Value.bool true)) (Operand.tmp 75), 4, "law.go:80", #[⟨22, Ground.data⟩, ⟨29, Ground.data⟩], none⟩ : Oper)) (v := ?_) rfl (by kernel_rfl) (by kernel_rfl) (by kernel_rfl) (fun _ _ _ h => h) (Or.inl ⟨by rfl, ?_⟩) (by assumption) ?_
      rotate_left
      · intro w hSw; (try dsimp only at hSw); go_simp; (try with_reducible rfl)
      simp only [Act.put, List.setIfInBounds_toArray, List.set_cons_zero, List.set_cons_succ]
      refine wpAnyH_take (i := 31) (oi := (⟨some 77, Op.move (Operand.tmp 76), 4, "law.go:80", #[⟨30, Ground.data⟩, ⟨26, Ground.chain⟩], none⟩ : Oper)) (v := ?_) rfl (by kernel_rfl) (by kernel_rfl) (by kernel_rfl) (fun _ _ _ h => h) (Or.inl ⟨by rfl, ?_⟩) (by assumption) ?_
      rotate_left
      · intro w hSw; (try dsimp only at hSw); go_simp; (try with_reducible rfl)
      simp only [Act.put, List.setIfInBounds_toArray, List.set_cons_zero, List.set_cons_succ]
      refine wpAnyH_take (i := 32) (oi := (⟨some 78, Op.move (Operand.tmp 11), 9, "law.go:80", #[⟨31, Ground.guard⟩], some (31, false)⟩ : Oper)) (v := ?_) rfl (by kernel_rfl) (by kernel_rfl) (by kernel_rfl) (fun _ _ _ h => h) (Or.inl ⟨by rfl, ?_⟩) (by assumption) ?_
      rotate_left
      · intro w hSw; (try dsimp only at hSw); go_simp; (try with_reducible rfl)
      simp only [Act.put, List.setIfInBounds_toArray, List.set_cons_zero, List.set_cons_succ]
      refine wpAnyH_take (i := 33) (oi := (⟨some 79, Op.load 40 (Operand.tmp 3), 40, "law.go:80", #[⟨31, Ground.guard⟩], some (31, false)⟩ : Oper)) (v := ?_) rfl (by kernel_rfl) (by kernel_rfl) (by kernel_rfl) (fun _ _ _ h => h) (Or.inl ⟨by rfl, ?_⟩) (by assumption) ?_
      rotate_left
      · intro w hSw; (try dsimp only at hSw); go_simp; (try with_reducible rfl)
      simp only [Act.put, List.setIfInBounds_toArray, List.set_cons_zero, List.set_cons_succ]
      refine wpAnyH_ready (rs := [34]) (by kernel_rfl) (by simp) ?_
      refine AllReadyH.cons (o := (⟨some 80, Op.call ⟨Callee.value (Operand.func 12), #[Operand.tmp 79], #[40]⟩, 9, "law.go:80", #[⟨33, Ground.data⟩, ⟨31, Ground.chain⟩, ⟨31, Ground.guard⟩], some (31, false)⟩ : Oper)) rfl (fun K hK => ?_) AllReadyH.nil
      go_simp
      go_at_call 12; (with_reducible refine (HRL2.out _ (by repeat (first | exact Fr.refl NoF _ | exact Hd.out | exact Hc.out | exact Hb.out | exact Ha.out | apply Fr.drew | apply Fr.drewN | apply Fr.alloc))).mono ?_); rintro e wd ⟨rfl, hd⟩; have Hd := Lib.hid hd; clear hd
      go_wp2_with fail
      refine hK.out _ _ ?_ (fun hHeld2 => ?_)
      · (try dsimp only); exact KS.out _ (by repeat (first | exact Fr.refl NoF _ | exact Hd.out | exact Hc.out | exact Hb.out | exact Ha.out | apply Fr.drew | apply Fr.drewN | apply Fr.alloc))
      clear hK K
      try simp only [Act.put, List.setIfInBounds_toArray, List.set_cons_zero, List.set_cons_succ]
      refine wpAnyH_take (i := 35) (oi := (⟨some 81, Op.binOp BinOp.neq 9 (Operand.tmp 78) (Operand.tmp 80) 9, 4, "law.go:80", #[⟨32, Ground.data⟩, ⟨34, Ground.data⟩, ⟨31, Ground.guard⟩], some (31, false)⟩ : Oper)) (v := ?_) rfl (by kernel_rfl) (by kernel_rfl) (by kernel_rfl) (fun _ _ _ h => h) (Or.inl ⟨by rfl, ?_⟩) (by assumption) ?_
      rotate_left
      · intro w hSw; (try dsimp only at hSw); go_simp; (try with_reducible rfl)
      simp only [Act.put, List.setIfInBounds_toArray, List.set_cons_zero, List.set_cons_succ]
      refine wpAnyH_take (i := 36) (oi := (⟨some 82, Op.pick (Operand.tmp 77) (Operand.const (Value.bool true)) (Operand.tmp 81), 4, "law.go:80", #[⟨31, Ground.data⟩, ⟨35, Ground.data⟩], none⟩ : Oper)) (v := ?_) rfl (by kernel_rfl) (by kernel_rfl) (by kernel_rfl) (fun _ _ _ h => h) (Or.inl ⟨by rfl, ?_⟩) (by assumption) ?_
      rotate_left
      · intro w hSw; (try dsimp only at hSw); go_simp; (try with_reducible rfl)
      simp only [Act.put, List.setIfInBounds_toArray, List.set_cons_zero, List.set_cons_succ]
      refine wpAnyH_take (i := 37) (oi := (⟨some 83, Op.move (Operand.tmp 82), 4, "law.go:80", #[⟨36, Ground.data⟩, ⟨34, Ground.chain⟩], none⟩ : Oper)) (v := ?_) rfl (by kernel_rfl) (by kernel_rfl) (by kernel_rfl) (fun _ _ _ h => h) (Or.inl ⟨by rfl, ?_⟩) (by assumption) ?_
      rotate_left
      · intro w hSw; (try dsimp only at hSw); go_simp; (try with_reducible rfl)
      simp only [Act.put, List.setIfInBounds_toArray, List.set_cons_zero, List.set_cons_succ]
      refine wpAnyH_take (i := 38) (oi := (⟨some 84, Op.move (Operand.tmp 13), 44, "law.go:80", #[⟨37, Ground.guard⟩], some (37, false)⟩ : Oper)) (v := ?_) rfl (by kernel_rfl) (by kernel_rfl) (by kernel_rfl) (fun _ _ _ h => h) (Or.inl ⟨by rfl, ?_⟩) (by assumption) ?_
      rotate_left
      · intro w hSw; (try dsimp only at hSw); go_simp; (try with_reducible rfl)
      simp only [Act.put, List.setIfInBounds_toArray, List.set_cons_zero, List.set_cons_succ]
      refine wpAnyH_take (i := 39) (oi := (⟨some 85, Op.binOp BinOp.eql 44 (Operand.tmp 84) (Operand.const (Value.int IntKind.i64 0)) 44, 4, "law.go:80", #[⟨38, Ground.data⟩, ⟨37, Ground.guard⟩], some (37, false)⟩ : Oper)) (v := ?_) rfl (by kernel_rfl) (by kernel_rfl) (by kernel_rfl) (fun _ _ _ h => h) (Or.inl ⟨by rfl, ?_⟩) (by assumption) ?_
      rotate_left
      · intro w hSw; (try dsimp only at hSw); go_simp; (try with_reducible rfl)
      simp only [Act.put, List.setIfInBounds_toArray, List.set_cons_zero, List.set_cons_succ]
      refine wpAnyH_take (i := 40) (oi := (⟨some 86, Op.move (Operand.tmp 11), 9, "law.go:80", #[⟨37, Ground.guard⟩], some (37, false)⟩ : Oper)) (v := ?_) rfl (by kernel_rfl) (by kernel_rfl) (by kernel_rfl) (fun _ _ _ h => h) (Or.inl ⟨by rfl, ?_⟩) (by assumption) ?_
      rotate_left
      · intro w hSw; (try dsimp only at hSw); go_simp; (try with_reducible rfl)
      simp only [Act.put, List.setIfInBounds_toArray, List.set_cons_zero, List.set_cons_succ]
      refine wpAnyH_take (i := 41) (oi := (⟨some 87, Op.binOp BinOp.neq 9 (Operand.tmp 86) (Operand.const (Value.string { data := #[] })) 9, 4, "law.go:80", #[⟨40, Ground.data⟩, ⟨37, Ground.guard⟩], some (37, false)⟩ : Oper)) (v := ?_) rfl (by kernel_rfl) (by kernel_rfl) (by kernel_rfl) (fun _ _ _ h => h) (Or.inl ⟨by rfl, ?_⟩) (by assumption) ?_
      rotate_left
      · intro w hSw; (try dsimp only at hSw); go_simp; (try with_reducible rfl)
      simp only [Act.put, List.setIfInBounds_toArray, List.set_cons_zero, List.set_cons_succ]
      refine wpAnyH_take (i := 42) (oi := (⟨some 88, Op.binOp BinOp.neq 4 (Operand.tmp 85) (Operand.tmp 87) 4, 4, "law.go:80", #[⟨39, Ground.data⟩, ⟨41, Ground.data⟩, ⟨37, Ground.guard⟩], some (37, false)⟩ : Oper)) (v := ?_) rfl (by kernel_rfl) (by kernel_rfl) (by kernel_rfl) (fun _ _ _ h => h) (Or.inl ⟨by rfl, ?_⟩) (by assumption) ?_
      rotate_left
      · intro w hSw; (try dsimp only at hSw); go_simp; (try with_reducible rfl)
      simp only [Act.put, List.setIfInBounds_toArray, List.set_cons_zero, List.set_cons_succ]
      refine wpAnyH_take (i := 43) (oi := (⟨some 89, Op.pick (Operand.tmp 83) (Operand.const (Value.bool true)) (Operand.tmp 88), 4, "law.go:80", #[⟨37, Ground.data⟩, ⟨42, Ground.data⟩], none⟩ : Oper)) (v := ?_) rfl (by kernel_rfl) (by kernel_rfl) (by kernel_rfl) (fun _ _ _ h => h) (Or.inl ⟨by rfl, ?_⟩) (by assumption) ?_
      rotate_left
      · intro w hSw; (try dsimp only at hSw); go_simp; (try with_reducible rfl)
      simp only [Act.put, List.setIfInBounds_toArray, List.set_cons_zero, List.set_cons_succ]
      refine wpAnyH_take (i := 44) (oi := (⟨some 90, Op.move (Operand.tmp 89), 4, "law.go:80", #[⟨43, Ground.data⟩, ⟨37, Ground.chain⟩], none⟩ : Oper)) (v := ?_) rfl (by kernel_rfl) (by kernel_rfl) (by kernel_rfl) (fun _ _ _ h => h) (Or.inl ⟨by rfl, ?_⟩) (by assumption) ?_
      rotate_left
      · intro w hSw; (try dsimp only at hSw); go_simp; (try with_reducible rfl)
      simp only [Act.put, List.setIfInBounds_toArray, List.set_cons_zero, List.set_cons_succ]
      refine wpAnyH_take (i := 45) (oi := (⟨some 91, Op.move (Operand.tmp 11), 9, "law.go:80", #[⟨44, Ground.guard⟩], some (44, false)⟩ : Oper)) (v := ?_) rfl (by kernel_rfl) (by kernel_rfl) (by kernel_rfl) (fun _ _ _ h => h) (Or.inl ⟨by rfl, ?_⟩) (by assumption) ?_
      rotate_left
      · intro w hSw; (try dsimp only at hSw); go_simp; (try with_reducible rfl)
      simp only [Act.put, List.setIfInBounds_toArray, List.set_cons_zero, List.set_cons_succ]
      refine wpAnyH_take (i := 46) (oi := (⟨some 92, Op.binOp BinOp.neq 9 (Operand.tmp 91) (Operand.const (Value.string { data := #[] })) 9, 4, "law.go:80", #[⟨45, Ground.data⟩, ⟨44, Ground.guard⟩], some (44, false)⟩ : Oper)) (v := ?_) rfl (by kernel_rfl) (by kernel_rfl) (by kernel_rfl) (fun _ _ _ h => h) (Or.inl ⟨by rfl, ?_⟩) (by assumption) ?_
      rotate_left
      · intro w hSw; (try dsimp only at hSw); go_simp; (try with_reducible rfl)
      simp only [Act.put, List.setIfInBounds_toArray, List.set_cons_zero, List.set_cons_succ]
      refine wpAnyH_take (i := 47) (oi := (⟨some 93, Op.move (Operand.tmp 92), 4, "law.go:80", #[⟨46, Ground.data⟩, ⟨44, Ground.chain⟩, ⟨44, Ground.guard⟩], some (44, false)⟩ : Oper)) (v := ?_) rfl (by kernel_rfl) (by kernel_rfl) (by kernel_rfl) (fun _ _ _ h => h) (Or.inl ⟨by rfl, ?_⟩) (by assumption) ?_
      rotate_left
      · intro w hSw; (try dsimp only at hSw); go_simp; (try with_reducible rfl)
      simp only [Act.put, List.setIfInBounds_toArray, List.set_cons_zero, List.set_cons_succ]
      refine wpAnyH_take (i := 48) (oi := (⟨some 94, Op.load 38 (Operand.tmp 12), 38, "law.go:80", #[⟨47, Ground.guard⟩], some (47, true)⟩ : Oper)) (v := ?_) rfl (by kernel_rfl) (by kernel_rfl) (by kernel_rfl) (fun _ _ _ h => h) (Or.inl ⟨by rfl, ?_⟩) (by assumption) ?_
      rotate_left
      · intro w hSw; (try dsimp only at hSw); go_simp; (try with_reducible rfl)
      simp only [Act.put, List.setIfInBounds_toArray, List.set_cons_zero, List.set_cons_succ]
      refine wpAnyH_take (i := 49) (oi := (⟨some 95, Op.load 40 (Operand.tmp 3), 40, "law.go:80", #[⟨47, Ground.guard⟩], some (47, true)⟩ : Oper)) (v := ?_) rfl (by kernel_rfl) (by kernel_rfl) (by kernel_rfl) (fun _ _ _ h => h) (Or.inl ⟨by rfl, ?_⟩) (by assumption) ?_
      rotate_left
      · intro w hSw; (try dsimp only at hSw); go_simp; (try with_reducible rfl)
      simp only [Act.put, List.setIfInBounds_toArray, List.set_cons_zero, List.set_cons_succ]
      refine wpAnyH_ready (rs := [50]) (by kernel_rfl) (by simp) ?_
      refine AllReadyH.cons (o := (⟨some 96, Op.call ⟨Callee.value (Operand.func 8), #[Operand.tmp 95], #[40]⟩, 38, "law.go:80", #[⟨49, Ground.data⟩, ⟨47, Ground.chain⟩, ⟨47, Ground.guard⟩], some (47, true)⟩ : Oper)) rfl (fun K hK => ?_) AllReadyH.nil
      go_simp
      go_at_call 8; (with_reducible refine (HTO2.out _ _ _ _ (by repeat (first | exact Fr.refl NoF _ | exact Hd.out | exact Hc.out | exact Hb.out | exact Ha.out | apply Fr.drew | apply Fr.drewN | apply Fr.alloc))).mono ?_); rintro e wb ⟨rfl, hb⟩; have Hb := Lib.hid hb; clear hb
      go_wp2_with fail
      refine hK.out _ _ ?_ (fun hHeld2 => ?_)
      · (try dsimp only); exact KS.out _ (by repeat (first | exact Fr.refl NoF _ | exact Hd.out | exact Hc.out | exact Hb.out | exact Ha.out | apply Fr.drew | apply Fr.drewN | apply Fr.alloc))
      clear hK K
      try simp only [Act.put, List.setIfInBounds_toArray, List.set_cons_zero, List.set_cons_succ]
      refine wpAnyH_take (i := 51) (oi := (⟨some 97, Op.binOp BinOp.neq 38 (Operand.tmp 94) (Operand.tmp 96) 38, 4, "law.go:80", #[⟨48, Ground.data⟩, ⟨50, Ground.data⟩, ⟨47, Ground.guard⟩], some (47, true)⟩ : Oper)) (v := ?_) rfl (by kernel_rfl) (by kernel_rfl) (by kernel_rfl) (fun _ _ _ h => h) (Or.inl ⟨by rfl, ?_⟩) (by assumption) ?_
      rotate_left
      · intro w hSw; (try dsimp only at hSw); go_simp; (try with_reducible rfl)
      simp only [Act.put, List.setIfInBounds_toArray, List.set_cons_zero, List.set_cons_succ]
      refine wpAnyH_take (i := 52) (oi := (⟨some 98, Op.pick (Operand.tmp 93) (Operand.tmp 97) (Operand.const (Value.bool false)), 4, "law.go:80", #[⟨47, Ground.data⟩, ⟨51, Ground.data⟩, ⟨44, Ground.guard⟩], some (44, false)⟩ : Oper)) (v := ?_) rfl (by kernel_rfl) (by kernel_rfl) (by kernel_rfl) (fun _ _ _ h => h) (Or.inl ⟨by rfl, ?_⟩) (by assumption) ?_
      rotate_left
      · intro w hSw; (try dsimp only at hSw); go_simp; (try with_reducible rfl)
      simp only [Act.put, List.setIfInBounds_toArray, List.set_cons_zero, List.set_cons_succ]
      refine wpAnyH_take (i := 53) (oi := (⟨some 99, Op.pick (Operand.tmp 90) (Operand.const (Value.bool true)) (Operand.tmp 98), 4, "law.go:80", #[⟨44, Ground.data⟩, ⟨52, Ground.data⟩], none⟩ : Oper)) (v := ?_) rfl (by kernel_rfl) (by kernel_rfl) (by kernel_rfl) (fun _ _ _ h => h) (Or.inl ⟨by rfl, ?_⟩) (by assumption) ?_
      rotate_left
      · intro w hSw; (try dsimp only at hSw); go_simp; (try with_reducible rfl)
      simp only [Act.put, List.setIfInBounds_toArray, List.set_cons_zero, List.set_cons_succ]
      refine wpAnyH_done (by kernel_rfl) ?_ _
      clear KS HRL2
      go_wp2_with fail
      go_region_held3 (fun w' => w'.cell? ⟨w.heap.size, 0, none⟩ = some (.int .i64 k) ∧ w'.cell? ⟨w.heap.size, 1, none⟩ = some (.int .u32 (id : Nat)) ∧ w'.cell? ⟨w.heap.size, 2, none⟩ = some (.int .u64 (v : Nat)) ∧ w'.cell? ⟨w.heap.size + 1, 0, none⟩ = some (.int .i64 (er : Nat)) ∧ w'.cell? ⟨w.heap.size + 1, 1, none⟩ = some (.int .u32 (aid : Nat)) ∧ w'.cell? ⟨w.heap.size + 1, 2, none⟩ = some (.int .u64 (av : Nat)))
        (exact KS2.out _ (by repeat (first | exact Fr.refl NoF _ | exact Hf.out | exact He.out | exact Hb.out | exact Hd.out | exact Hc.out | exact Ha.out | apply Fr.drew | apply Fr.drewN | apply Fr.alloc)))
        (first
          | (go_at_call 8; (with_reducible refine (HTO2.out _ _ _ _ (by repeat (first | exact Fr.refl NoF _ | exact Hf.out | exact He.out | exact Hb.out | exact Hd.out | exact Hc.out | exact Ha.out | apply Fr.drew | apply Fr.drewN | apply Fr.alloc))).mono ?_); rintro e wb ⟨rfl, hb⟩; have Hb := Lib.hid hb; clear hb)
          | (go_at_call 13; (with_reducible refine (HTL2.out _ (by repeat (first | exact Fr.refl NoF _ | exact Hf.out | exact He.out | exact Hb.out | exact Hd.out | exact Hc.out | exact Ha.out | apply Fr.drew | apply Fr.drewN | apply Fr.alloc))).mono ?_); rintro e we ⟨rfl, he⟩; have He := Lib.hid he; clear he)
          | (go_at_call 14; (with_reducible refine (HRT2.out _ (by repeat (first | exact Fr.refl NoF _ | exact Hf.out | exact He.out | exact Hb.out | exact Hd.out | exact Hc.out | exact Ha.out | apply Fr.drew | apply Fr.drewN | apply Fr.alloc))).mono ?_); rintro e wf ⟨rfl, hf⟩; have Hf := Lib.hid hf; clear hf))
      all_goals
        go_wp2
        go_returns
        exact ⟨rfl, Fr.trans (G := NoF) H5.out (by repeat (first | exact Fr.refl NoF _ | exact Hf.out | exact He.out | exact Hb.out | exact Hd.out | exact Hc.out | exact Ha.out | apply Fr.drew | apply Fr.drewN | apply Fr.alloc)) (fun _ q => q.elim)⟩
    · clear HZ5
      have qw1 : sW.toList = [] := HEW.out.2 hem
      clear hem
      have KS : Hid (∀ W, Fr NoF wz W → (fun w' => w'.cell? ⟨w.heap.size, 0, none⟩ = some (.int .i64 k) ∧ w'.cell? ⟨w.heap.size, 1, none⟩ = some (.int .u32 (id : Nat)) ∧ w'.cell? ⟨w.heap.size, 2, none⟩ = some (.int .u64 (v : Nat)) ∧ w'.cell? ⟨b7, 0, none⟩ = some (.int .i64 ky) ∧ w'.cell? ⟨b7, 1, none⟩ = some (.int .u32 (iy : Nat)) ∧ w'.cell? ⟨b7, 2, none⟩ = some (.int .u64 (vy : Nat)) ∧ w'.cell? ⟨b9, 0, none⟩ = some (.int .i64 ky) ∧ w'.cell? ⟨b9, 1, none⟩ = some (.int .u32 (iy : Nat)) ∧ w'.cell? ⟨b9, 2, none⟩ = some (.int .u64 (vy : Nat)) ∧ w'.cell? ⟨b12, 0, none⟩ = some (.int .i64 kz) ∧ w'.cell? ⟨b12, 1, none⟩ = some (.int .u32 (iz : Nat)) ∧ w'.cell? ⟨b12, 2, none⟩ = some (.int .u64 (vz : Nat))) W) := fun W f =>
        ⟨(B3.out.fr f (fun q => q)).three.1, (B3.out.fr f (fun q => q)).three.2.1, (B3.out.fr f (fun q => q)).three.2.2, (B7.out.fr f (fun q => q)).three.1, (B7.out.fr f (fun q => q)).three.2.1, (B7.out.fr f (fun q => q)).three.2.2, (B9.out.fr f (fun q => q)).three.1, (B9.out.fr f (fun q => q)).three.2.1, (B9.out.fr f (fun q => q)).three.2.2, (B12.out.fr f (fun q => q)).three.1, (B12.out.fr f (fun q => q)).three.2.1, (B12.out.fr f (fun q => q)).three.2.2⟩
      refine wp_region_held_drew (S := (fun w' => w'.cell? ⟨w.heap.size, 0, none⟩ = some (.int .i64 k) ∧ w'.cell? ⟨w.heap.size, 1, none⟩ = some (.int .u32 (id : Nat)) ∧ w'.cell? ⟨w.heap.size, 2, none⟩ = some (.int .u64 (v : Nat)) ∧ w'.cell? ⟨b7, 0, none⟩ = some (.int .i64 ky) ∧ w'.cell? ⟨b7, 1, none⟩ = some (.int .u32 (iy : Nat)) ∧ w'.cell? ⟨b7, 2, none⟩ = some (.int .u64 (vy : Nat)) ∧ w'.cell? ⟨b9, 0, none⟩ = some (.int .i64 ky) ∧ w'.cell? ⟨b9, 1, none⟩ = some (.int .u32 (iy : Nat)) ∧ w'.cell? ⟨b9, 2, none⟩ = some (.int .u64 (vy : Nat)) ∧ w'.cell? ⟨b12, 0, none⟩ = some (.int .i64 kz) ∧ w'.cell? ⟨b12, 1, none⟩ = some (.int .u32 (iz : Nat)) ∧ w'.cell? ⟨b12, 2, none⟩ = some (.int .u64 (vz : Nat)))) (by kernel_rfl) ?_ (fun hHeld => ?_)
      · (try dsimp only); exact KS.out _ (by repeat (first | exact Fr.refl NoF _ | exact Hd.out | exact Hc.out | exact Hb.out | exact Ha.out | apply Fr.drew | apply Fr.drewN | apply Fr.alloc))
      refine wpAnyH_ready (rs := [0]) (by kernel_rfl) (by simp) ?_
      refine AllReadyH.cons (o := (⟨some 46, Op.call ⟨Callee.value (Operand.func 7), #[], #[]⟩, 4, "law.go:80", #[], none⟩ : Oper)) rfl (fun K hK => ?_) AllReadyH.nil
      go_simp
      go_at_call 7; (with_reducible refine (HTD2.out _ (by repeat (first | exact Fr.refl NoF _ | exact Hd.out | exact Hc.out | exact Hb.out | exact Ha.out | apply Fr.drew | apply Fr.drewN | apply Fr.alloc))).mono ?_); rintro e wa ⟨rfl, ha⟩; have Ha := Lib.hid ha; clear ha
      go_wp2_with fail
      refine hK.out _ _ ?_ (fun hHeld2 => ?_)
      · (try dsimp only); exact KS.out _ (by repeat (first | exact Fr.refl NoF _ | exact Hd.out | exact Hc.out | exact Hb.out | exact Ha.out | apply Fr.drew | apply Fr.drewN | apply Fr.alloc))
      clear hK K
      try simp only [Act.put, List.setIfInBounds_toArray, List.set_cons_zero, List.set_cons_succ]
      refine wpAnyH_take (i := 1) (oi := (⟨some 47, Op.unOp UnOp.not 4 (Operand.tmp 46), 4, "law.go:80", #[⟨0, Ground.data⟩], none⟩ : Oper)) (v := ?_) rfl (by kernel_rfl) (by kernel_rfl) (by kernel_rfl) (fun _ _ _ h => h) (Or.inl ⟨by rfl, ?_⟩) (by assumption) ?_
      rotate_left
      · intro w hSw; (try dsimp only at hSw); go_simp; (try with_reducible rfl)
      simp only [Act.put, List.setIfInBounds_toArray, List.set_cons_zero, List.set_cons_succ]
      refine wpAnyH_take (i := 2) (oi := (⟨some 48, Op.move (Operand.tmp 47), 4, "law.go:80", #[⟨1, Ground.data⟩, ⟨0, Ground.chain⟩], none⟩ : Oper)) (v := ?_) rfl (by kernel_rfl) (by kernel_rfl) (by kernel_rfl) (fun _ _ _ h => h) (Or.inl ⟨by rfl, ?_⟩) (by assumption) ?_
      rotate_left
      · intro w hSw; (try dsimp only at hSw); go_simp; (try with_reducible rfl)
      simp only [Act.put, List.setIfInBounds_toArray, List.set_cons_zero, List.set_cons_succ]
      refine wpAnyH_take (i := 3) (oi := (⟨some 49, Op.load 38 (Operand.tmp 7), 38, "law.go:80", #[⟨2, Ground.guard⟩], some (2, false)⟩ : Oper)) (v := ?_) rfl (by kernel_rfl) (by kernel_rfl) (by kernel_rfl) (fun _ _ _ h => h) (Or.inl ⟨by rfl, ?_⟩) (by assumption) ?_
      rotate_left
      · intro w hSw; (try dsimp only at hSw); go_simp; (try with_reducible rfl)
      simp only [Act.put, List.setIfInBounds_toArray, List.set_cons_zero, List.set_cons_succ]
      refine wpAnyH_take (i := 4) (oi := (⟨some 50, Op.load 40 (Operand.tmp 9), 40, "law.go:80", #[⟨2, Ground.guard⟩], some (2, false)⟩ : Oper)) (v := ?_) rfl (by kernel_rfl) (by kernel_rfl) (by kernel_rfl) (fun _ _ _ h => h) (Or.inl ⟨by rfl, ?_⟩) (by assumption) ?_
      rotate_left
      · intro w hSw; (try dsimp only at hSw); go_simp; (try with_reducible rfl)
      simp only [Act.put, List.setIfInBounds_toArray, List.set_cons_zero, List.set_cons_succ]
      refine wpAnyH_ready (rs := [5]) (by kernel_rfl) (by simp) ?_
      refine AllReadyH.cons (o := (⟨some 51, Op.call ⟨Callee.value (Operand.func 8), #[Operand.tmp 50], #[40]⟩, 38, "law.go:80", #[⟨4, Ground.data⟩, ⟨2, Ground.chain⟩, ⟨2, Ground.guard⟩], some (2, false)⟩ : Oper)) rfl (fun K hK => ?_) AllReadyH.nil
      go_simp
      go_at_call 8; (with_reducible refine (HTO2.out _ _ _ _ (by repeat (first | exact Fr.refl NoF _ | exact Hd.out | exact Hc.out | exact Hb.out | exact Ha.out | apply Fr.drew | apply Fr.drewN | apply Fr.alloc))).mono ?_); rintro e wb ⟨rfl, hb⟩; have Hb := Lib.hid hb; clear hb
      go_wp2_with fail
      refine hK.out _ _ ?_ (fun hHeld2 => ?_)
      · (try dsimp only); exact KS.out _ (by repeat (first | exact Fr.refl NoF _ | exact Hd.out | exact Hc.out | exact Hb.out | exact Ha.out | apply Fr.drew | apply Fr.drewN | apply Fr.alloc))
      clear hK K
      try simp only [Act.put, List.setIfInBounds_toArray, List.set_cons_zero, List.set_cons_succ]
      refine wpAnyH_take (i := 6) (oi := (⟨some 52, Op.binOp BinOp.neq 38 (Operand.tmp 49) (Operand.tmp 51) 38, 4, "law.go:80", #[⟨3, Ground.data⟩, ⟨5, Ground.data⟩, ⟨2, Ground.guard⟩], some (2, false)⟩ : Oper)) (v := ?_) rfl (by kernel_rfl) (by kernel_rfl) (by kernel_rfl) (fun _ _ _ h => h) (Or.inl ⟨by rfl, ?_⟩) (by assumption) ?_
      rotate_left
      · intro w hSw; (try dsimp only at hSw); go_simp; (try with_reducible rfl)
      simp only [Act.put, List.setIfInBounds_toArray, List.set_cons_zero, List.set_cons_succ]
      refine wpAnyH_take (i := 7) (oi := (⟨some 53, Op.pick (Operand.tmp 48) (Operand.const (Value.bool true)) (Operand.tmp 52), 4, "law.go:80", #[⟨2, Ground.data⟩, ⟨6, Ground.data⟩], none⟩ : Oper)) (v := ?_) rfl (by kernel_rfl) (by kernel_rfl) (by kernel_rfl) (fun _ _ _ h => h) (Or.inl ⟨by rfl, ?_⟩) (by assumption) ?_
      rotate_left
      · intro w hSw; (try dsimp only at hSw); go_simp; (try with_reducible rfl)
      simp only [Act.put, List.setIfInBounds_toArray, List.set_cons_zero, List.set_cons_succ]
      refine wpAnyH_take (i := 8) (oi := (⟨some 54, Op.move (Operand.tmp 53), 4, "law.go:80", #[⟨7, Ground.data⟩, ⟨5, Ground.chain⟩], none⟩ : Oper)) (v := ?_) rfl (by kernel_rfl) (by kernel_rfl) (by kernel_rfl) (fun _ _ _ h => h) (Or.inl ⟨by rfl, ?_⟩) (by assumption) ?_
      rotate_left
      · intro w hSw; (try dsimp only at hSw); go_simp; (try with_reducible rfl)
      simp only [Act.put, List.setIfInBounds_toArray, List.set_cons_zero, List.set_cons_succ]
      refine wpAnyH_take (i := 9) (oi := (⟨some 55, Op.move (Operand.tmp 8), 44, "law.go:80", #[⟨8, Ground.guard⟩], some (8, false)⟩ : Oper)) (v := ?_) rfl (by kernel_rfl) (by kernel_rfl) (by kernel_rfl) (fun _ _ _ h => h) (Or.inl ⟨by rfl, ?_⟩) (by assumption) ?_
      rotate_left
      · intro w hSw; (try dsimp only at hSw); go_simp; (try with_reducible rfl)
      simp only [Act.put, List.setIfInBounds_toArray, List.set_cons_zero, List.set_cons_succ]
      refine wpAnyH_take (i := 10) (oi := (⟨some 56, Op.binOp BinOp.eql 44 (Operand.tmp 55) (Operand.const (Value.int IntKind.i64 0)) 44, 4, "law.go:80", #[⟨9, Ground.data⟩, ⟨8, Ground.guard⟩], some (8, false)⟩ : Oper)) (v := ?_) rfl (by kernel_rfl) (by kernel_rfl) (by kernel_rfl) (fun _ _ _ h => h) (Or.inl ⟨by rfl, ?_⟩) (by assumption) ?_
      rotate_left
      · intro w hSw; (try dsimp only at hSw); go_simp; (try with_reducible rfl)
      simp only [Act.put, List.setIfInBounds_toArray, List.set_cons_zero, List.set_cons_succ]
      refine wpAnyH_take (i := 11) (oi := (⟨some 57, Op.move (Operand.tmp 10), 4, "law.go:80", #[⟨8, Ground.guard⟩], some (8, false)⟩ : Oper)) (v := ?_) rfl (by kernel_rfl) (by kernel_rfl) (by kernel_rfl) (fun _ _ _ h => h) (Or.inl ⟨by rfl, ?_⟩) (by assumption) ?_
      rotate_left
      · intro w hSw; (try dsimp only at hSw); go_simp; (try with_reducible rfl)
      simp only [Act.put, List.setIfInBounds_toArray, List.set_cons_zero, List.set_cons_succ]
      refine wpAnyH_take (i := 12) (oi := (⟨some 58, Op.binOp BinOp.neq 4 (Operand.tmp 56) (Operand.tmp 57) 4, 4, "law.go:80", #[⟨10, Ground.data⟩, ⟨11, Ground.data⟩, ⟨8, Ground.guard⟩], some (8, false)⟩ : Oper)) (v := ?_) rfl (by kernel_rfl) (by kernel_rfl) (by kernel_rfl) (fun _ _ _ h => h) (Or.inl ⟨by rfl, ?_⟩) (by assumption) ?_
      rotate_left
      · intro w hSw; (try dsimp only at hSw); go_simp; (try with_reducible rfl)
      simp only [Act.put, List.setIfInBounds_toArray, List.set_cons_zero, List.set_cons_succ]
      refine wpAnyH_take (i := 13) (oi := (⟨some 59, Op.pick (Operand.tmp 54) (Operand.const (Value.bool true)) (Operand.tmp 58), 4, "law.go:80", #[⟨8, Ground.data⟩, ⟨12, Ground.data⟩], none⟩ : Oper)) (v := ?_) rfl (by kernel_rfl) (by kernel_rfl) (by kernel_rfl) (fun _ _ _ h => h) (Or.inl ⟨by rfl, ?_⟩) (by assumption) ?_
      rotate_left
      · intro w hSw; (try dsimp only at hSw); go_simp; (try with_reducible rfl)
      simp only [Act.put, List.setIfInBounds_toArray, List.set_cons_zero, List.set_cons_succ]
      refine wpAnyH_take (i := 14) (oi := (⟨some 60, Op.move (Operand.tmp 59), 4, "law.go:80", #[⟨13, Ground.data⟩, ⟨8, Ground.chain⟩], none⟩ : Oper)) (v := ?_) rfl (by kernel_rfl) (by kernel_rfl) (by kernel_rfl) (fun _ _ _ h => h) (Or.inl ⟨by rfl, ?_⟩) (by assumption) ?_
      rotate_left
      · intro w hSw; (try dsimp only at hSw); go_simp; (try with_reducible rfl)
      simp only [Act.put, List.setIfInBounds_toArray, List.set_cons_zero, List.set_cons_succ]
      refine wpAnyH_take (i := 15) (oi := (⟨some 61, Op.move (Operand.tmp 10), 4, "law.go:80", #[⟨14, Ground.guard⟩], some (14, false)⟩ : Oper)) (v := ?_) rfl (by kernel_rfl) (by kernel_rfl) (by kernel_rfl) (fun _ _ _ h => h) (Or.inl ⟨by rfl, ?_⟩) (by assumption) ?_
      rotate_left
      · intro w hSw; (try dsimp only at hSw); go_simp; (try with_reducible rfl)
      simp only [Act.put, List.setIfInBounds_toArray, List.set_cons_zero, List.set_cons_succ]
      refine wpAnyH_take (i := 16) (oi := (⟨some 62, Op.unOp UnOp.not 4 (Operand.tmp 61), 4, "law.go:80", #[⟨15, Ground.data⟩, ⟨14, Ground.guard⟩], some (14, false)⟩ : Oper)) (v := ?_) rfl (by kernel_rfl) (by kernel_rfl) (by kernel_rfl) (fun _ _ _ h => h) (Or.inl ⟨by rfl, ?_⟩) (by assumption) ?_
      rotate_left
      · intro w hSw; (try dsimp only at hSw); go_simp; (try with_reducible rfl)
      simp only [Act.put, List.setIfInBounds_toArray, List.set_cons_zero, List.set_cons_succ]
      refine wpAnyH_take (i := 17) (oi := (⟨some 63, Op.move (Operand.tmp 62), 4, "law.go:80", #[⟨16, Ground.data⟩, ⟨14, Ground.chain⟩, ⟨14, Ground.guard⟩], some (14, false)⟩ : Oper)) (v := ?_) rfl (by kernel_rfl) (by kernel_rfl) (by kernel_rfl) (fun _ _ _ h => h) (Or.inl ⟨by rfl, ?_⟩) (by assumption) ?_
      rotate_left
      · intro w hSw; (try dsimp only at hSw); go_simp; (try with_reducible rfl)
      simp only [Act.put, List.setIfInBounds_toArray, List.set_cons_zero, List.set_cons_succ]
      refine wpAnyH_take (i := 18) (oi := (⟨some 64, Op.move (Operand.tmp 8), 44, "law.go:80", #[⟨17, Ground.guard⟩], some (17, true)⟩ : Oper)) (v := undef) rfl (by kernel_rfl) (by kernel_rfl) (by kernel_rfl) (fun _ _ _ h => h) (Or.inr ⟨by rfl, rfl⟩) (by assumption) ?_
      simp only [Act.put, List.setIfInBounds_toArray, List.set_cons_zero, List.set_cons_succ]
      refine wpAnyH_take (i := 19) (oi := (⟨some 65, Op.binOp BinOp.neq 44 (Operand.tmp 64) (Operand.const (Value.int IntKind.i64 8)) 44, 4, "law.go:80", #[⟨18, Ground.data⟩, ⟨17, Ground.guard⟩], some (17, true)⟩ : Oper)) (v := undef) rfl (by kernel_rfl) (by kernel_rfl) (by kernel_rfl) (fun _ _ _ h => h) (Or.inr ⟨by rfl, rfl⟩) (by assumption) ?_
      simp only [Act.put, List.setIfInBounds_toArray, List.set_cons_zero, List.set_cons_succ]
      refine wpAnyH_take (i := 20) (oi := (⟨some 66, Op.pick (Operand.tmp 63) (Operand.tmp 65) (Operand.const (Value.bool false)), 4, "law.go:80", #[⟨17, Ground.data⟩, ⟨19, Ground.data⟩, ⟨14, Ground.guard⟩], some (14, false)⟩ : Oper)) (v := ?_) rfl (by kernel_rfl) (by kernel_rfl) (by kernel_rfl) (fun _ _ _ h => h) (Or.inl ⟨by rfl, ?_⟩) (by assumption) ?_
      rotate_left
      · intro w hSw; (try dsimp only at hSw); go_simp; (try with_reducible rfl)
      simp only [Act.put, List.setIfInBounds_toArray, List.set_cons_zero, List.set_cons_succ]
      refine wpAnyH_take (i := 21) (oi := (⟨some 67, Op.pick (Operand.tmp 60) (Operand.const (Value.bool true)) (Operand.tmp 66), 4, "law.go:80", #[⟨14, Ground.data⟩, ⟨20, Ground.data⟩], none⟩ : Oper)) (v := ?_) rfl (by kernel_rfl) (by kernel_rfl) (by kernel_rfl) (fun _ _ _ h => h) (Or.inl ⟨by rfl, ?_⟩) (by assumption) ?_
      rotate_left
      · intro w hSw; (try dsimp only at hSw); go_simp; (try with_reducible rfl)
      simp only [Act.put, List.setIfInBounds_toArray, List.set_cons_zero, List.set_cons_succ]
      refine wpAnyH_take (i := 22) (oi := (⟨some 68, Op.move (Operand.tmp 67), 4, "law.go:80", #[⟨21, Ground.data⟩, ⟨17, Ground.chain⟩], none⟩ : Oper)) (v := ?_) rfl (by kernel_rfl) (by kernel_rfl) (by kernel_rfl) (fun _ _ _ h => h) (Or.inl ⟨by rfl, ?_⟩) (by assumption) ?_
      rotate_left
      · intro w hSw; (try dsimp only at hSw); go_simp; (try with_reducible rfl)
      simp only [Act.put, List.setIfInBounds_toArray, List.set_cons_zero, List.set_cons_succ]
      refine wpAnyH_take (i := 23) (oi := (⟨some 69, Op.move (Operand.tmp 10), 4, "law.go:80", #[⟨22, Ground.guard⟩], some (22, false)⟩ : Oper)) (v := ?_) rfl (by kernel_rfl) (by kernel_rfl) (by kernel_rfl) (fun _ _ _ h => h) (Or.inl ⟨by rfl, ?_⟩) (by assumption) ?_
      rotate_left
      · intro w hSw; (try dsimp only at hSw); go_simp; (try with_reducible rfl)
      simp only [Act.put, List.setIfInBounds_toArray, List.set_cons_zero, List.set_cons_succ]
      refine wpAnyH_take (i := 24) (oi := (⟨some 70, Op.move (Operand.tmp 69), 4, "law.go:80", #[⟨23, Ground.data⟩, ⟨22, Ground.chain⟩, ⟨22, Ground.guard⟩], some (22, false)⟩ : Oper)) (v := ?_) rfl (by kernel_rfl) (by kernel_rfl) (by kernel_rfl) (fun _ _ _ h => h) (Or.inl ⟨by rfl, ?_⟩) (by assumption) ?_
      rotate_left
      · intro w hSw; (try dsimp only at hSw); go_simp; (try with_reducible rfl)
      simp only [Act.put, List.setIfInBounds_toArray, List.set_cons_zero, List.set_cons_succ]
      refine wpAnyH_take (i := 25) (oi := (⟨some 71, Op.load 38 (Operand.tmp 7), 38, "law.go:80", #[⟨24, Ground.guard⟩], some (24, true)⟩ : Oper)) (v := ?_) rfl (by kernel_rfl) (by kernel_rfl) (by kernel_rfl) (fun _ _ _ h => h) (Or.inl ⟨by rfl, ?_⟩) (by assumption) ?_
      rotate_left
      · intro w hSw; (try dsimp only at hSw); go_simp; (try with_reducible rfl)
      simp only [Act.put, List.setIfInBounds_toArray, List.set_cons_zero, List.set_cons_succ]
      refine wpAnyH_take (i := 27) (oi := (⟨some 73, Op.move (Operand.tmp 1), 9, "law.go:80", #[⟨24, Ground.guard⟩], some (24, true)⟩ : Oper)) (v := ?_) rfl (by kernel_rfl) (by kernel_rfl) (by kernel_rfl) (fun _ _ _ h => h) (Or.inl ⟨by rfl, ?_⟩) (by assumption) ?_
      rotate_left
      · intro w hSw; (try dsimp only at hSw); go_simp; (try with_reducible rfl)
      simp only [Act.put, List.setIfInBounds_toArray, List.set_cons_zero, List.set_cons_succ]
      refine wpAnyH_ready (rs := [26]) (by kernel_rfl) (by simp) ?_
      refine AllReadyH.cons (o := (⟨some 72, Op.call ⟨Callee.value (Operand.func 11), #[Operand.tmp 71], #[38]⟩, 9, "law.go:80", #[⟨25, Ground.data⟩, ⟨24, Ground.chain⟩, ⟨24, Ground.guard⟩], some (24, true)⟩ : Oper)) rfl (fun K hK => ?_) AllReadyH.nil
      go_simp
      go_at_call 11; (with_reducible refine (HLX2.out _ (by repeat (first | exact Fr.refl NoF _ | exact Hd.out | exact Hc.out | exact Hb.out | exact Ha.out | apply Fr.drew | apply Fr.drewN | apply Fr.alloc))).mono ?_); rintro e wc ⟨rfl, hc⟩; have Hc := Lib.hid hc; clear hc
      go_wp2_with fail
      refine hK.out _ _ ?_ (fun hHeld2 => ?_)
      · (try dsimp only); exact KS.out _ (by repeat (first | exact Fr.refl NoF _ | exact Hd.out | exact Hc.out | exact Hb.out | exact Ha.out | apply Fr.drew | apply Fr.drewN | apply Fr.alloc))
      clear hK K
      try simp only [Act.put, List.setIfInBounds_toArray, List.set_cons_zero, List.set_cons_succ]
      refine wpAnyH_take (i := 28) (oi := (⟨some 74, Op.binOp BinOp.neq 9 (Operand.tmp 72) (Operand.tmp 73) 9, 4, "law.go:80", #[⟨26, Ground.data⟩, ⟨27, Ground.data⟩, ⟨24, Ground.guard⟩], some (24, true)⟩ : Oper)) (v := ?_) rfl (by kernel_rfl) (by kernel_rfl) (by kernel_rfl) (fun _ _ _ h => h) (Or.inl ⟨by rfl, ?_⟩) (by assumption) ?_
      rotate_left
      · intro w hSw; (try dsimp only at hSw); go_simp; (try with_reducible rfl)
      simp only [Act.put, List.setIfInBounds_toArray, List.set_cons_zero, List.set_cons_succ]
      refine wpAnyH_take (i := 29) (oi := (⟨some 75, Op.pick (Operand.tmp 70) (Operand.tmp 74) (Operand.const (Value.bool false)), 4, "law.go:80", #[⟨24, Ground.data⟩, ⟨28, Ground.data⟩, ⟨22, Ground.guard⟩], some (22, false)⟩ : Oper)) (v := ?_) rfl (by kernel_rfl) (by kernel_rfl) (by kernel_rfl) (fun _ _ _ h => h) (Or.inl ⟨by rfl, ?_⟩) (by assumption) ?_
      rotate_left
      · intro w hSw; (try dsimp only at hSw); go_simp; (try with_reducible rfl)
      simp only [Act.put, List.setIfInBounds_toArray, List.set_cons_zero, List.set_cons_succ]
      refine wpAnyH_take (i := 30) (oi := (⟨some 76, Op.pick (Operand.tmp 68) (Operand.const (Value.bool true)) (Operand.tmp 75), 4, "law.go:80", #[⟨22, Ground.data⟩, ⟨29, Ground.data⟩], none⟩ : Oper)) (v := ?_) rfl (by kernel_rfl) (by kernel_rfl) (by kernel_rfl) (fun _ _ _ h => h) (Or.inl ⟨by rfl, ?_⟩) (by assumption) ?_
      rotate_left
      · intro w hSw; (try dsimp only at hSw); go_simp; (try with_reducible rfl)
      simp only [Act.put, List.setIfInBounds_toArray, List.set_cons_zero, List.set_cons_succ]
      refine wpAnyH_take (i := 31) (oi := (⟨some 77, Op.move (Operand.tmp 76), 4, "law.go:80", #[⟨30, Ground.data⟩, ⟨26, Ground.chain⟩], none⟩ : Oper)) (v := ?_) rfl (by kernel_rfl) (by kernel_rfl) (by kernel_rfl) (fun _ _ _ h => h) (Or.inl ⟨by rfl, ?_⟩) (by assumption) ?_
      rotate_left
      · intro w hSw; (try dsimp only at hSw); go_simp; (try with_reducible rfl)
      simp only [Act.put, List.setIfInBounds_toArray, List.set_cons_zero, List.set_cons_succ]
      refine wpAnyH_take (i := 32) (oi := (⟨some 78, Op.move (Operand.tmp 11), 9, "law.go:80", #[⟨31, Ground.guard⟩], some (31, false)⟩ : Oper)) (v := ?_) rfl (by kernel_rfl) (by kernel_rfl) (by kernel_rfl) (fun _ _ _ h => h) (Or.inl ⟨by rfl, ?_⟩) (by assumption) ?_
      rotate_left
      · intro w hSw; (try dsimp only at hSw); go_simp; (try with_reducible rfl)
      simp only [Act.put, List.setIfInBounds_toArray, List.set_cons_zero, List.set_cons_succ]
      refine wpAnyH_take (i := 33) (oi := (⟨some 79, Op.load 40 (Operand.tmp 3), 40, "law.go:80", #[⟨31, Ground.guard⟩], some (31, false)⟩ : Oper)) (v := ?_) rfl (by kernel_rfl) (by kernel_rfl) (by kernel_rfl) (fun _ _ _ h => h) (Or.inl ⟨by rfl, ?_⟩) (by assumption) ?_
      rotate_left
      · intro w hSw; (try dsimp only at hSw); go_simp; (try with_reducible rfl)
      simp only [Act.put, List.setIfInBounds_toArray, List.set_cons_zero, List.set_cons_succ]
      refine wpAnyH_ready (rs := [34]) (by kernel_rfl) (by simp) ?_
      refine AllReadyH.cons (o := (⟨some 80, Op.call ⟨Callee.value (Operand.func 12), #[Operand.tmp 79], #[40]⟩, 9, "law.go:80", #[⟨33, Ground.data⟩, ⟨31, Ground.chain⟩, ⟨31, Ground.guard⟩], some (31, false)⟩ : Oper)) rfl (fun K hK => ?_) AllReadyH.nil
      go_simp
      go_at_call 12; (with_reducible refine (HRL2.out _ (by repeat (first | exact Fr.refl NoF _ | exact Hd.out | exact Hc.out | exact Hb.out | exact Ha.out | apply Fr.drew | apply Fr.drewN | apply Fr.alloc))).mono ?_); rintro e wd ⟨rfl, hd⟩; have Hd := Lib.hid hd; clear hd
      go_wp2_with fail
      refine hK.out _ _ ?_ (fun hHeld2 => ?_)
      · (try dsimp only); exact KS.out _ (by repeat (first | exact Fr.refl NoF _ | exact Hd.out | exact Hc.out | exact Hb.out | exact Ha.out | apply Fr.drew | apply Fr.drewN | apply Fr.alloc))
      clear hK K
      try simp only [Act.put, List.setIfInBounds_toArray, List.set_cons_zero, List.set_cons_succ]
      refine wpAnyH_take (i := 35) (oi := (⟨some 81, Op.binOp BinOp.neq 9 (Operand.tmp 78) (Operand.tmp 80) 9, 4, "law.go:80", #[⟨32, Ground.data⟩, ⟨34, Ground.data⟩, ⟨31, Ground.guard⟩], some (31, false)⟩ : Oper)) (v := ?_) rfl (by kernel_rfl) (by kernel_rfl) (by kernel_rfl) (fun _ _ _ h => h) (Or.inl ⟨by rfl, ?_⟩) (by assumption) ?_
      rotate_left
      · intro w hSw; (try dsimp only at hSw); go_simp; (try with_reducible rfl)
      simp only [Act.put, List.setIfInBounds_toArray, List.set_cons_zero, List.set_cons_succ]
      refine wpAnyH_take (i := 36) (oi := (⟨some 82, Op.pick (Operand.tmp 77) (Operand.const (Value.bool true)) (Operand.tmp 81), 4, "law.go:80", #[⟨31, Ground.data⟩, ⟨35, Ground.data⟩], none⟩ : Oper)) (v := ?_) rfl (by kernel_rfl) (by kernel_rfl) (by kernel_rfl) (fun _ _ _ h => h) (Or.inl ⟨by rfl, ?_⟩) (by assumption) ?_
      rotate_left
      · intro w hSw; (try dsimp only at hSw); go_simp; (try with_reducible rfl)
      simp only [Act.put, List.setIfInBounds_toArray, List.set_cons_zero, List.set_cons_succ]
      refine wpAnyH_take (i := 37) (oi := (⟨some 83, Op.move (Operand.tmp 82), 4, "law.go:80", #[⟨36, Ground.data⟩, ⟨34, Ground.chain⟩], none⟩ : Oper)) (v := ?_) rfl (by kernel_rfl) (by kernel_rfl) (by kernel_rfl) (fun _ _ _ h => h) (Or.inl ⟨by rfl, ?_⟩) (by assumption) ?_
      rotate_left
      · intro w hSw; (try dsimp only at hSw); go_simp; (try with_reducible rfl)
      simp only [Act.put, List.setIfInBounds_toArray, List.set_cons_zero, List.set_cons_succ]
      refine wpAnyH_take (i := 38) (oi := (⟨some 84, Op.move (Operand.tmp 13), 44, "law.go:80", #[⟨37, Ground.guard⟩], some (37, false)⟩ : Oper)) (v := ?_) rfl (by kernel_rfl) (by kernel_rfl) (by kernel_rfl) (fun _ _ _ h => h) (Or.inl ⟨by rfl, ?_⟩) (by assumption) ?_
      rotate_left
      · intro w hSw; (try dsimp only at hSw); go_simp; (try with_reducible rfl)
      simp only [Act.put, List.setIfInBounds_toArray, List.set_cons_zero, List.set_cons_succ]
      refine wpAnyH_take (i := 39) (oi := (⟨some 85, Op.binOp BinOp.eql 44 (Operand.tmp 84) (Operand.const (Value.int IntKind.i64 0)) 44, 4, "law.go:80", #[⟨38, Ground.data⟩, ⟨37, Ground.guard⟩], some (37, false)⟩ : Oper)) (v := ?_) rfl (by kernel_rfl) (by kernel_rfl) (by kernel_rfl) (fun _ _ _ h => h) (Or.inl ⟨by rfl, ?_⟩) (by assumption) ?_
      rotate_left
      · intro w hSw; (try dsimp only at hSw); go_simp; (try with_reducible rfl)
      simp only [Act.put, List.setIfInBounds_toArray, List.set_cons_zero, List.set_cons_succ]
      refine wpAnyH_take (i := 40) (oi := (⟨some 86, Op.move (Operand.tmp 11), 9, "law.go:80", #[⟨37, Ground.guard⟩], some (37, false)⟩ : Oper)) (v := ?_) rfl (by kernel_rfl) (by kernel_rfl) (by kernel_rfl) (fun _ _ _ h => h) (Or.inl ⟨by rfl, ?_⟩) (by assumption) ?_
      rotate_left
      · intro w hSw; (try dsimp only at hSw); go_simp; (try with_reducible rfl)
      simp only [Act.put, List.setIfInBounds_toArray, List.set_cons_zero, List.set_cons_succ]
      refine wpAnyH_take (i := 41) (oi := (⟨some 87, Op.binOp BinOp.neq 9 (Operand.tmp 86) (Operand.const (Value.string { data := #[] })) 9, 4, "law.go:80", #[⟨40, Ground.data⟩, ⟨37, Ground.guard⟩], some (37, false)⟩ : Oper)) (v := ?_) rfl (by kernel_rfl) (by kernel_rfl) (by kernel_rfl) (fun _ _ _ h => h) (Or.inl ⟨by rfl, ?_⟩) (by assumption) ?_
      rotate_left
      · intro w hSw; (try dsimp only at hSw); go_simp; (try with_reducible rfl)
      simp only [Act.put, List.setIfInBounds_toArray, List.set_cons_zero, List.set_cons_succ]
      refine wpAnyH_take (i := 42) (oi := (⟨some 88, Op.binOp BinOp.neq 4 (Operand.tmp 85) (Operand.tmp 87) 4, 4, "law.go:80", #[⟨39, Ground.data⟩, ⟨41, Ground.data⟩, ⟨37, Ground.guard⟩], some (37, false)⟩ : Oper)) (v := ?_) rfl (by kernel_rfl) (by kernel_rfl) (by kernel_rfl) (fun _ _ _ h => h) (Or.inl ⟨by rfl, ?_⟩) (by assumption) ?_
      rotate_left
      · intro w hSw; (try dsimp only at hSw); go_simp; (try with_reducible rfl)
      simp only [Act.put, List.setIfInBounds_toArray, List.set_cons_zero, List.set_cons_succ]
      refine wpAnyH_take (i := 43) (oi := (⟨some 89, Op.pick (Operand.tmp 83) (Operand.const (Value.bool true)) (Operand.tmp 88), 4, "law.go:80", #[⟨37, Ground.data⟩, ⟨42, Ground.data⟩], none⟩ : Oper)) (v := ?_) rfl (by kernel_rfl) (by kernel_rfl) (by kernel_rfl) (fun _ _ _ h => h) (Or.inl ⟨by rfl, ?_⟩) (by assumption) ?_
      rotate_left
      · intro w hSw; (try dsimp only at hSw); go_simp; (try with_reducible rfl)
      simp only [Act.put, List.setIfInBounds_toArray, List.set_cons_zero, List.set_cons_succ]
      refine wpAnyH_take (i := 44) (oi := (⟨some 90, Op.move (Operand.tmp 89), 4, "law.go:80", #[⟨43, Ground.data⟩, ⟨37, Ground.chain⟩], none⟩ : Oper)) (v := ?_) rfl (by kernel_rfl) (by kernel_rfl) (by kernel_rfl) (fun _ _ _ h => h) (Or.inl ⟨by rfl, ?_⟩) (by assumption) ?_
      rotate_left
      · intro w hSw; (try dsimp only at hSw); go_simp; (try with_reducible rfl)
      simp only [Act.put, List.setIfInBounds_toArray, List.set_cons_zero, List.set_cons_succ]
      refine wpAnyH_take (i := 45) (oi := (⟨some 91, Op.move (Operand.tmp 11), 9, "law.go:80", #[⟨44, Ground.guard⟩], some (44, false)⟩ : Oper)) (v := ?_) rfl (by kernel_rfl) (by kernel_rfl) (by kernel_rfl) (fun _ _ _ h => h) (Or.inl ⟨by rfl, ?_⟩) (by assumption) ?_
      rotate_left
      · intro w hSw; (try dsimp only at hSw); go_simp; (try with_reducible rfl)
      simp only [Act.put, List.setIfInBounds_toArray, List.set_cons_zero, List.set_cons_succ]
      refine wpAnyH_take (i := 46) (oi := (⟨some 92, Op.binOp BinOp.neq 9 (Operand.tmp 91) (Operand.const (Value.string { data := #[] })) 9, 4, "law.go:80", #[⟨45, Ground.data⟩, ⟨44, Ground.guard⟩], some (44, false)⟩ : Oper)) (v := ?_) rfl (by kernel_rfl) (by kernel_rfl) (by kernel_rfl) (fun _ _ _ h => h) (Or.inl ⟨by rfl, ?_⟩) (by assumption) ?_
      rotate_left
      · intro w hSw; (try dsimp only at hSw); go_simp; (try with_reducible rfl)
      simp only [Act.put, List.setIfInBounds_toArray, List.set_cons_zero, List.set_cons_succ]
      refine wpAnyH_take (i := 47) (oi := (⟨some 93, Op.move (Operand.tmp 92), 4, "law.go:80", #[⟨46, Ground.data⟩, ⟨44, Ground.chain⟩, ⟨44, Ground.guard⟩], some (44, false)⟩ : Oper)) (v := ?_) rfl (by kernel_rfl) (by kernel_rfl) (by kernel_rfl) (fun _ _ _ h => h) (Or.inl ⟨by rfl, ?_⟩) (by assumption) ?_
      rotate_left
      · intro w hSw; (try dsimp only at hSw); go_simp; (try with_reducible rfl)
      simp only [Act.put, List.setIfInBounds_toArray, List.set_cons_zero, List.set_cons_succ]
      refine wpAnyH_take (i := 48) (oi := (⟨some 94, Op.load 38 (Operand.tmp 12), 38, "law.go:80", #[⟨47, Ground.guard⟩], some (47, true)⟩ : Oper)) (v := undef) rfl (by kernel_rfl) (by kernel_rfl) (by kernel_rfl) (fun _ _ _ h => h) (Or.inr ⟨by rfl, rfl⟩) (by assumption) ?_
      simp only [Act.put, List.setIfInBounds_toArray, List.set_cons_zero, List.set_cons_succ]
      refine wpAnyH_take (i := 49) (oi := (⟨some 95, Op.load 40 (Operand.tmp 3), 40, "law.go:80", #[⟨47, Ground.guard⟩], some (47, true)⟩ : Oper)) (v := undef) rfl (by kernel_rfl) (by kernel_rfl) (by kernel_rfl) (fun _ _ _ h => h) (Or.inr ⟨by rfl, rfl⟩) (by assumption) ?_
      simp only [Act.put, List.setIfInBounds_toArray, List.set_cons_zero, List.set_cons_succ]
      refine wpAnyH_take (i := 50) (oi := (⟨some 96, Op.call ⟨Callee.value (Operand.func 8), #[Operand.tmp 95], #[40]⟩, 38, "law.go:80", #[⟨49, Ground.data⟩, ⟨47, Ground.chain⟩, ⟨47, Ground.guard⟩], some (47, true)⟩ : Oper)) (v := undef) rfl (by kernel_rfl) (by kernel_rfl) (by kernel_rfl) (fun _ _ _ h => h) (Or.inr ⟨by rfl, rfl⟩) (by assumption) ?_
      simp only [Act.put, List.setIfInBounds_toArray, List.set_cons_zero, List.set_cons_succ]
      refine wpAnyH_take (i := 51) (oi := (⟨some 97, Op.binOp BinOp.neq 38 (Operand.tmp 94) (Operand.tmp 96) 38, 4, "law.go:80", #[⟨48, Ground.data⟩, ⟨50, Ground.data⟩, ⟨47, Ground.guard⟩], some (47, true)⟩ : Oper)) (v := undef) rfl (by kernel_rfl) (by kernel_rfl) (by kernel_rfl) (fun _ _ _ h => h) (Or.inr ⟨by rfl, rfl⟩) (by assumption) ?_
      simp only [Act.put, List.setIfInBounds_toArray, List.set_cons_zero, List.set_cons_succ]
      refine wpAnyH_take (i := 52) (oi := (⟨some 98, Op.pick (Operand.tmp 93) (Operand.tmp 97) (Operand.const (Value.bool false)), 4, "law.go:80", #[⟨47, Ground.data⟩, ⟨51, Ground.data⟩, ⟨44, Ground.guard⟩], some (44, false)⟩ : Oper)) (v := ?_) rfl (by kernel_rfl) (by kernel_rfl) (by kernel_rfl) (fun _ _ _ h => h) (Or.inl ⟨by rfl, ?_⟩) (by assumption) ?_
      rotate_left
      · intro w hSw; (try dsimp only at hSw); go_simp; (try with_reducible rfl)
      simp only [Act.put, List.setIfInBounds_toArray, List.set_cons_zero, List.set_cons_succ]
      refine wpAnyH_take (i := 53) (oi := (⟨some 99, Op.pick (Operand.tmp 90) (Operand.const (Value.bool true)) (Operand.tmp 98), 4, "law.go:80", #[⟨44, Ground.data⟩, ⟨52, Ground.data⟩], none⟩ : Oper)) (v := ?_) rfl (by kernel_rfl) (by kernel_rfl) (by kernel_rfl) (fun _ _ _ h => h) (Or.inl ⟨by rfl, ?_⟩) (by assumption) ?_
      rotate_left
      · intro w hSw; (try dsimp only at hSw); go_simp; (try with_reducible rfl)
      simp only [Act.put, List.setIfInBounds_toArray, List.set_cons_zero, List.set_cons_succ]
      refine wpAnyH_done (by kernel_rfl) ?_ _
      clear KS HRL2
      go_wp2_with fail
      go_region_held3 (fun w' => w'.cell? ⟨w.heap.size, 0, none⟩ = some (.int .i64 k) ∧ w'.cell? ⟨w.heap.size, 1, none⟩ = some (.int .u32 (id : Nat)) ∧ w'.cell? ⟨w.heap.size, 2, none⟩ = some (.int .u64 (v : Nat)) ∧ w'.cell? ⟨w.heap.size + 1, 0, none⟩ = some (.int .i64 (er : Nat)) ∧ w'.cell? ⟨w.heap.size + 1, 1, none⟩ = some (.int .u32 (aid : Nat)) ∧ w'.cell? ⟨w.heap.size + 1, 2, none⟩ = some (.int .u64 (av : Nat)))
        (exact KS2.out _ (by repeat (first | exact Fr.refl NoF _ | exact Hf.out | exact He.out | exact Hb.out | exact Hd.out | exact Hc.out | exact Ha.out | apply Fr.drew | apply Fr.drewN | apply Fr.alloc)))
        (first
          | (go_at_call 8; (with_reducible refine (HTO2.out _ _ _ _ (by repeat (first | exact Fr.refl NoF _ | exact Hf.out | exact He.out | exact Hb.out | exact Hd.out | exact Hc.out | exact Ha.out | apply Fr.drew | apply Fr.drewN | apply Fr.alloc))).mono ?_); rintro e wb ⟨rfl, hb⟩; have Hb := Lib.hid hb; clear hb)
          | (go_at_call 13; (with_reducible refine (HTL2.out _ (by repeat (first | exact Fr.refl NoF _ | exact Hf.out | exact He.out | exact Hb.out | exact Hd.out | exact Hc.out | exact Ha.out | apply Fr.drew | apply Fr.drewN | apply Fr.alloc))).mono ?_); rintro e we ⟨rfl, he⟩; have He := Lib.hid he; clear he)
          | (go_at_call 14; (with_reducible refine (HRT2.out _ (by repeat (first | exact Fr.refl NoF _ | exact Hf.out | exact He.out | exact Hb.out | exact Hd.out | exact Hc.out | exact Ha.out | apply Fr.drew | apply Fr.drewN | apply Fr.alloc))).mono ?_); rintro e wf ⟨rfl, hf⟩; have Hf := Lib.hid hf; clear hf))
      all_goals
        go_wp2
        go_returns
        exact ⟨rfl, Fr.trans (G := NoF) H5.out (by repeat (first | exact Fr.refl NoF _ | exact Hf.out | exact He.out | exact Hb.out | exact Hd.out | exact Hc.out | exact Ha.out | apply Fr.drew | apply Fr.drewN | apply Fr.alloc)) (fun _ q => q.elim)⟩
  | false =>
    have e0 : ex = 8 := HEX.out.symm
    subst e0
    clear HLX HTD HTO HRL HEX HPX
    rcases HZ5.out with ⟨hne, e1, e2, e3, rfl⟩ | ⟨hem, rfl⟩
    · clear HZ5
      have e1' := e1.symm
      have e2' := e2.symm
      have e3' := e3.symm
      clear e1 e2 e3
      subst e1' e2' e3'
      have qw1 : ¬ sW.toList = [] := fun q => hne (HEW.out.1 q)
      have qw2 : sW.toList.isEmpty = false := by cases h : sW.toList with
        | nil => exact (qw1 h).elim
        | cons => rfl
      have qw3 : (sW.toList == []) = false := by cases h : sW.toList with
        | nil => exact (qw1 h).elim
        | cons => rfl
      clear hne
      have KS : Hid (∀ W, Fr NoF wz W → (fun w' => w'.cell? ⟨w.heap.size, 0, none⟩ = some (.int .i64 k) ∧ w'.cell? ⟨w.heap.size, 1, none⟩ = some (.int .u32 (id : Nat)) ∧ w'.cell? ⟨w.heap.size, 2, none⟩ = some (.int .u64 (v : Nat)) ∧ w'.cell? ⟨b7, 0, none⟩ = some (.int .i64 ky) ∧ w'.cell? ⟨b7, 1, none⟩ = some (.int .u32 (iy : Nat)) ∧ w'.cell? ⟨b7, 2, none⟩ = some (.int .u64 (vy : Nat)) ∧ w'.cell? ⟨b9, 0, none⟩ = some (.int .i64 ky) ∧ w'.cell? ⟨b9, 1, none⟩ = some (.int .u32 (iy : Nat)) ∧ w'.cell? ⟨b9, 2, none⟩ = some (.int .u64 (vy : Nat)) ∧ w'.cell? ⟨b12, 0, none⟩ = some (.int .i64 k) ∧ w'.cell? ⟨b12, 1, none⟩ = some (.int .u32 (id : Nat)) ∧ w'.cell? ⟨b12, 2, none⟩ = some (.int .u64 (v : Nat))) W) := fun W f =>
        ⟨(B3.out.fr f (fun q => q)).three.1, (B3.out.fr f (fun q => q)).three.2.1, (B3.out.fr f (fun q => q)).three.2.2, (B7.out.fr f (fun q => q)).three.1, (B7.out.fr f (fun q => q)).three.2.1, (B7.out.fr f (fun q => q)).three.2.2, (B9.out.fr f (fun q => q)).three.1, (B9.out.fr f (fun q => q)).three.2.1, (B9.out.fr f (fun q => q)).three.2.2, (B12.out.fr f (fun q => q)).three.1, (B12.out.fr f (fun q => q)).three.2.1, (B12.out.fr f (fun q => q)).three.2.2⟩
      refine wp_region_held_drew (S := (fun w' => w'.cell? ⟨w.heap.size, 0, none⟩ = some (.int .i64 k) ∧ w'.cell? ⟨w.heap.size, 1, none⟩ = some (.int .u32 (id : Nat)) ∧ w'.cell? ⟨w.heap.size, 2, none⟩ = some (.int .u64 (v : Nat)) ∧ w'.cell? ⟨b7, 0, none⟩ = some (.int .i64 ky) ∧ w'.cell? ⟨b7, 1, none⟩ = some (.int .u32 (iy : Nat)) ∧ w'.cell? ⟨b7, 2, none⟩ = some (.int .u64 (vy : Nat)) ∧ w'.cell? ⟨b9, 0, none⟩ = some (.int .i64 ky) ∧ w'.cell? ⟨b9, 1, none⟩ = some (.int .u32 (iy : Nat)) ∧ w'.cell? ⟨b9, 2, none⟩ = some (.int .u64 (vy : Nat)) ∧ w'.cell? ⟨b12, 0, none⟩ = some (.int .i64 k) ∧ w'.cell? ⟨b12, 1, none⟩ = some (.int .u32 (id : Nat)) ∧ w'.cell? ⟨b12, 2, none⟩ = some (.int .u64 (v : Nat)))) (by kernel_rfl) ?_ (fun hHeld => ?_)
      · (try dsimp only); exact KS.out _ (by repeat (first | exact Fr.refl NoF _ | exact Hd.out | exact Hc.out | exact Hb.out | exact Ha.out | apply Fr.drew | apply Fr.drewN | apply Fr.alloc))
      refine wpAnyH_ready (rs := [0]) (by kernel_rfl) (by simp) ?_
      refine AllReadyH.cons (o := (⟨some 46, Op.call ⟨Callee.value (Operand.func 7), #[], #[]⟩, 4, "law.go:80", #[], none⟩ : Oper)) rfl (fun K hK => ?_) AllReadyH.nil
      go_simp
      go_at_call 7; (with_reducible refine (HTD2.out _ (by repeat (first | exact Fr.refl NoF _ | exact Hd.out | exact Hc.out | exact Hb.out | exact Ha.out | apply Fr.drew | apply Fr.drewN | apply Fr.alloc))).mono ?_); rintro e wa ⟨rfl, ha⟩; have Ha := Lib.hid ha; clear ha
      go_wp2_with fail
      refine hK.out _ _ ?_ (fun hHeld2 => ?_)
      · (try dsimp only); exact KS.out _ (by repeat (first | exact Fr.refl NoF _ | exact Hd.out | exact Hc.out | exact Hb.out | exact Ha.out | apply Fr.drew | apply Fr.drewN | apply Fr.alloc))
      clear hK K
      try simp only [Act.put, List.setIfInBounds_toArray, List.set_cons_zero, List.set_cons_succ]
      refine wpAnyH_take (i := 1) (oi := (⟨some 47, Op.unOp UnOp.not 4 (Operand.tmp 46), 4, "law.go:80", #[⟨0, Ground.data⟩], none⟩ : Oper)) (v := ?_) rfl (by kernel_rfl) (by kernel_rfl) (by kernel_rfl) (fun _ _ _ h => h) (Or.inl ⟨by rfl, ?_⟩) (by assumption) ?_
      rotate_left
      · intro w hSw; (try dsimp only at hSw); go_simp; (try with_reducible rfl)
      simp only [Act.put, List.setIfInBounds_toArray, List.set_cons_zero, List.set_cons_succ]
      refine wpAnyH_take (i := 2) (oi := (⟨some 48, Op.move (Operand.tmp 47), 4, "law.go:80", #[⟨1, Ground.data⟩, ⟨0, Ground.chain⟩], none⟩ : Oper)) (v := ?_) rfl (by kernel_rfl) (by kernel_rfl) (by kernel_rfl) (fun _ _ _ h => h) (Or.inl ⟨by rfl, ?_⟩) (by assumption) ?_
      rotate_left
      · intro w hSw; (try dsimp only at hSw); go_simp; (try with_reducible rfl)
      simp only [Act.put, List.setIfInBounds_toArray, List.set_cons_zero, List.set_cons_succ]
      refine wpAnyH_take (i := 3) (oi := (⟨some 49, Op.load 38 (Operand.tmp 7), 38, "law.go:80", #[⟨2, Ground.guard⟩], some (2, false)⟩ : Oper)) (v := ?_) rfl (by kernel_rfl) (by kernel_rfl) (by kernel_rfl) (fun _ _ _ h => h) (Or.inl ⟨by rfl, ?_⟩) (by assumption) ?_
      rotate_left
      · intro w hSw; (try dsimp only at hSw); go_simp; (try with_reducible rfl)
      simp only [Act.put, List.setIfInBounds_toArray, List.set_cons_zero, List.set_cons_succ]
      refine wpAnyH_take (i := 4) (oi := (⟨some 50, Op.load 40 (Operand.tmp 9), 40, "law.go:80", #[⟨2, Ground.guard⟩], some (2, false)⟩ : Oper)) (v := ?_) rfl (by kernel_rfl) (by kernel_rfl) (by kernel_rfl) (fun _ _ _ h => h) (Or.inl ⟨by rfl, ?_⟩) (by assumption) ?_
      rotate_left
      · intro w hSw; (try dsimp only at hSw); go_simp; (try with_reducible rfl)
      simp only [Act.put, List.setIfInBounds_toArray, List.set_cons_zero, List.set_cons_succ]
      refine wpAnyH_ready (rs := [5]) (by kernel_rfl) (by simp) ?_
      refine AllReadyH.cons (o := (⟨some 51, Op.call ⟨Callee.value (Operand.func 8), #[Operand.tmp 50], #[40]⟩, 38, "law.go:80", #[⟨4, Ground.data⟩, ⟨2, Ground.chain⟩, ⟨2, Ground.guard⟩], some (2, false)⟩ : Oper)) rfl (fun K hK => ?_) AllReadyH.nil
      go_simp
      go_at_call 8; (with_reducible refine (HTO2.out _ _ _ _ (by repeat (first | exact Fr.refl NoF _ | exact Hd.out | exact Hc.out | exact Hb.out | exact Ha.out | apply Fr.drew | apply Fr.drewN | apply Fr.alloc))).mono ?_); rintro e wb ⟨rfl, hb⟩; have Hb := Lib.hid hb; clear hb
      go_wp2_with fail
      refine hK.out _ _ ?_ (fun hHeld2 => ?_)
      · (try dsimp only); exact KS.out _ (by repeat (first | exact Fr.refl NoF _ | exact Hd.out | exact Hc.out | exact Hb.out | exact Ha.out | apply Fr.drew | apply Fr.drewN | apply Fr.alloc))
      clear hK K
      try simp only [Act.put, List.setIfInBounds_toArray, List.set_cons_zero, List.set_cons_succ]
      refine wpAnyH_take (i := 6) (oi := (⟨some 52, Op.binOp BinOp.neq 38 (Operand.tmp 49) (Operand.tmp 51) 38, 4, "law.go:80", #[⟨3, Ground.data⟩, ⟨5, Ground.data⟩, ⟨2, Ground.guard⟩], some (2, false)⟩ : Oper)) (v := ?_) rfl (by kernel_rfl) (by kernel_rfl) (by kernel_rfl) (fun _ _ _ h => h) (Or.inl ⟨by rfl, ?_⟩) (by assumption) ?_
      rotate_left
      · intro w hSw; (try dsimp only at hSw); go_simp; (try with_reducible rfl)
      simp only [Act.put, List.setIfInBounds_toArray, List.set_cons_zero, List.set_cons_succ]
      refine wpAnyH_take (i := 7) (oi := (⟨some 53, Op.pick (Operand.tmp 48) (Operand.const (Value.bool true)) (Operand.tmp 52), 4, "law.go:80", #[⟨2, Ground.data⟩, ⟨6, Ground.data⟩], none⟩ : Oper)) (v := ?_) rfl (by kernel_rfl) (by kernel_rfl) (by kernel_rfl) (fun _ _ _ h => h) (Or.inl ⟨by rfl, ?_⟩) (by assumption) ?_
      rotate_left
      · intro w hSw; (try dsimp only at hSw); go_simp; (try with_reducible rfl)
      simp only [Act.put, List.setIfInBounds_toArray, List.set_cons_zero, List.set_cons_succ]
      refine wpAnyH_take (i := 8) (oi := (⟨some 54, Op.move (Operand.tmp 53), 4, "law.go:80", #[⟨7, Ground.data⟩, ⟨5, Ground.chain⟩], none⟩ : Oper)) (v := ?_) rfl (by kernel_rfl) (by kernel_rfl) (by kernel_rfl) (fun _ _ _ h => h) (Or.inl ⟨by rfl, ?_⟩) (by assumption) ?_
      rotate_left
      · intro w hSw; (try dsimp only at hSw); go_simp; (try with_reducible rfl)
      simp only [Act.put, List.setIfInBounds_toArray, List.set_cons_zero, List.set_cons_succ]
      refine wpAnyH_take (i := 9) (oi := (⟨some 55, Op.move (Operand.tmp 8), 44, "law.go:80", #[⟨8, Ground.guard⟩], some (8, false)⟩ : Oper)) (v := ?_) rfl (by kernel_rfl) (by kernel_rfl) (by kernel_rfl) (fun _ _ _ h => h) (Or.inl ⟨by rfl, ?_⟩) (by assumption) ?_
      rotate_left
      · intro w hSw; (try dsimp only at hSw); go_simp; (try with_reducible rfl)
      simp only [Act.put, List.setIfInBounds_toArray, List.set_cons_zero, List.set_cons_succ]
      refine wpAnyH_take (i := 10) (oi := (⟨some 56, Op.binOp BinOp.eql 44 (Operand.tmp 55) (Operand.const (Value.int IntKind.i64 0)) 44, 4, "law.go:80", #[⟨9, Ground.data⟩, ⟨8, Ground.guard⟩], some (8, false)⟩ : Oper)) (v := ?_) rfl (by kernel_rfl) (by kernel_rfl) (by kernel_rfl) (fun _ _ _ h => h) (Or.inl ⟨by rfl, ?_⟩) (by assumption) ?_
      rotate_left
      · intro w hSw; (try dsimp only at hSw); go_simp; (try with_reducible rfl)
      simp only [Act.put, List.setIfInBounds_toArray, List.set_cons_zero, List.set_cons_succ]
      refine wpAnyH_take (i := 11) (oi := (⟨some 57, Op.move (Operand.tmp 10), 4, "law.go:80", #[⟨8, Ground.guard⟩], some (8, false)⟩ : Oper)) (v := ?_) rfl (by kernel_rfl) (by kernel_rfl) (by kernel_rfl) (fun _ _ _ h => h) (Or.inl ⟨by rfl, ?_⟩) (by assumption) ?_
      rotate_left
      · intro w hSw; (try dsimp only at hSw); go_simp; (try with_reducible rfl)
      simp only [Act.put, List.setIfInBounds_toArray, List.set_cons_zero, List.set_cons_succ]
      refine wpAnyH_take (i := 12) (oi := (⟨some 58, Op.binOp BinOp.neq 4 (Operand.tmp 56) (Operand.tmp 57) 4, 4, "law.go:80", #[⟨10, Ground.data⟩, ⟨11, Ground.data⟩, ⟨8, Ground.guard⟩], some (8, false)⟩ : Oper)) (v := ?_) rfl (by kernel_rfl) (by kernel_rfl) (by kernel_rfl) (fun _ _ _ h => h) (Or.inl ⟨by rfl, ?_⟩) (by assumption) ?_
      rotate_left
      · intro w hSw; (try dsimp only at hSw); go_simp; (try with_reducible rfl)
      simp only [Act.put, List.setIfInBounds_toArray, List.set_cons_zero, List.set_cons_succ]
      refine wpAnyH_take (i := 13) (oi := (⟨some 59, Op.pick (Operand.tmp 54) (Operand.const (Value.bool true)) (Operand.tmp 58), 4, "law.go:80", #[⟨8, Ground.data⟩, ⟨12, Ground.data⟩], none⟩ : Oper)) (v := ?_) rfl (by kernel_rfl) (by kernel_rfl) (by kernel_rfl) (fun _ _ _ h => h) (Or.inl ⟨by rfl, ?_⟩) (by assumption) ?_
      rotate_left
      · intro w hSw; (try dsimp only at hSw); go_simp; (try with_reducible rfl)
      simp only [Act.put, List.setIfInBounds_toArray, List.set_cons_zero, List.set_cons_succ]
      refine wpAnyH_take (i := 14) (oi := (⟨some 60, Op.move (Operand.tmp 59), 4, "law.go:80", #[⟨13, Ground.data⟩, ⟨8, Ground.chain⟩], none⟩ : Oper)) (v := ?_) rfl (by kernel_rfl) (by kernel_rfl) (by kernel_rfl) (fun _ _ _ h => h) (Or.inl ⟨by rfl, ?_⟩) (by assumption) ?_
      rotate_left
      · intro w hSw; (try dsimp only at hSw); go_simp; (try with_reducible rfl)
      simp only [Act.put, List.setIfInBounds_toArray, List.set_cons_zero, List.set_cons_succ]
      refine wpAnyH_take (i := 15) (oi := (⟨some 61, Op.move (Operand.tmp 10), 4, "law.go:80", #[⟨14, Ground.guard⟩], some (14, false)⟩ : Oper)) (v := ?_) rfl (by kernel_rfl) (by kernel_rfl) (by kernel_rfl) (fun _ _ _ h => h) (Or.inl ⟨by rfl, ?_⟩) (by assumption) ?_
      rotate_left
      · intro w hSw; (try dsimp only at hSw); go_simp; (try with_reducible rfl)
      simp only [Act.put, List.setIfInBounds_toArray, List.set_cons_zero, List.set_cons_succ]
      refine wpAnyH_take (i := 16) (oi := (⟨some 62, Op.unOp UnOp.not 4 (Operand.tmp 61), 4, "law.go:80", #[⟨15, Ground.data⟩, ⟨14, Ground.guard⟩], some (14, false)⟩ : Oper)) (v := ?_) rfl (by kernel_rfl) (by kernel_rfl) (by kernel_rfl) (fun _ _ _ h => h) (Or.inl ⟨by rfl, ?_⟩) (by assumption) ?_
      rotate_left
      · intro w hSw; (try dsimp only at hSw); go_simp; (try with_reducible rfl)
      simp only [Act.put, List.setIfInBounds_toArray, List.set_cons_zero, List.set_cons_succ]
      refine wpAnyH_take (i := 17) (oi := (⟨some 63, Op.move (Operand.tmp 62), 4, "law.go:80", #[⟨16, Ground.data⟩, ⟨14, Ground.chain⟩, ⟨14, Ground.guard⟩], some (14, false)⟩ : Oper)) (v := ?_) rfl (by kernel_rfl) (by kernel_rfl) (by kernel_rfl) (fun _ _ _ h => h) (Or.inl ⟨by rfl, ?_⟩) (by assumption) ?_
      rotate_left
      · intro w hSw; (try dsimp only at hSw); go_simp; (try with_reducible rfl)
      simp only [Act.put, List.setIfInBounds_toArray, List.set_cons_zero, List.set_cons_succ]
      refine wpAnyH_take (i := 18) (oi := (⟨some 64, Op.move (Operand.tmp 8), 44, "law.go:80", #[⟨17, Ground.guard⟩], some (17, true)⟩ : Oper)) (v := ?_) rfl (by kernel_rfl) (by kernel_rfl) (by kernel_rfl) (fun _ _ _ h => h) (Or.inl ⟨by rfl, ?_⟩) (by assumption) ?_
      rotate_left
      · intro w hSw; (try dsimp only at hSw); go_simp; (try with_reducible rfl)
      simp only [Act.put, List.setIfInBounds_toArray, List.set_cons_zero, List.set_cons_succ]
      refine wpAnyH_take (i := 19) (oi := (⟨some 65, Op.binOp BinOp.neq 44 (Operand.tmp 64) (Operand.const (Value.int IntKind.i64 8)) 44, 4, "law.go:80", #[⟨18, Ground.data⟩, ⟨17, Ground.guard⟩], some (17, true)⟩ : Oper)) (v := ?_) rfl (by kernel_rfl) (by kernel_rfl) (by kernel_rfl) (fun _ _ _ h => h) (Or.inl ⟨by rfl, ?_⟩) (by assumption) ?_
      rotate_left
      · intro w hSw; (try dsimp only at hSw); go_simp; (try with_reducible rfl)
      simp only [Act.put, List.setIfInBounds_toArray, List.set_cons_zero, List.set_cons_succ]
      refine wpAnyH_take (i := 20) (oi := (⟨some 66, Op.pick (Operand.tmp 63) (Operand.tmp 65) (Operand.const (Value.bool false)), 4, "law.go:80", #[⟨17, Ground.data⟩, ⟨19, Ground.data⟩, ⟨14, Ground.guard⟩], some (14, false)⟩ : Oper)) (v := ?_) rfl (by kernel_rfl) (by kernel_rfl) (by kernel_rfl) (fun _ _ _ h => h) (Or.inl ⟨by rfl, ?_⟩) (by assumption) ?_
      rotate_left
      · intro w hSw; (try dsimp only at hSw); go_simp; (try with_reducible rfl)
      simp only [Act.put, List.setIfInBounds_toArray, List.set_cons_zero, List.set_cons_succ]
      refine wpAnyH_take (i := 21) (oi := (⟨some 67, Op.pick (Operand.tmp 60) (Operand.const (Value.bool true)) (Operand.tmp 66), 4, "law.go:80", #[⟨14, Ground.data⟩, ⟨20, Ground.data⟩], none⟩ : Oper)) (v := ?_) rfl (by kernel_rfl) (by kernel_rfl) (by kernel_rfl) (fun _ _ _ h => h) (Or.inl ⟨by rfl, ?_⟩) (by assumption) ?_
      rotate_left
      · intro w hSw; (try dsimp only at hSw); go_simp; (try with_reducible rfl)
      simp only [Act.put, List.setIfInBounds_toArray, List.set_cons_zero, List.set_cons_succ]
      refine wpAnyH_take (i := 22) (oi := (⟨some 68, Op.move (Operand.tmp 67), 4, "law.go:80", #[⟨21, Ground.data⟩, ⟨17, Ground.chain⟩], none⟩ : Oper)) (v := ?_) rfl (by kernel_rfl) (by kernel_rfl) (by kernel_rfl) (fun _ _ _ h => h) (Or.inl ⟨by rfl, ?_⟩) (by assumption) ?_
      rotate_left
      · intro w hSw; (try dsimp only at hSw); go_simp; (try with_reducible rfl)
      simp only [Act.put, List.setIfInBounds_toArray, List.set_cons_zero, List.set_cons_succ]
      refine wpAnyH_take (i := 23) (oi := (⟨some 69, Op.move (Operand.tmp 10), 4, "law.go:80", #[⟨22, Ground.guard⟩], some (22, false)⟩ : Oper)) (v := ?_) rfl (by kernel_rfl) (by kernel_rfl) (by kernel_rfl) (fun _ _ _ h => h) (Or.inl ⟨by rfl, ?_⟩) (by assumption) ?_
      rotate_left
      · intro w hSw; (try dsimp only at hSw); go_simp; (try with_reducible rfl)
      simp only [Act.put, List.setIfInBounds_toArray, List.set_cons_zero, List.set_cons_succ]
      refine wpAnyH_take (i := 24) (oi := (⟨some 70, Op.move (Operand.tmp 69), 4, "law.go:80", #[⟨23, Ground.data⟩, ⟨22, Ground.chain⟩, ⟨22, Ground.guard⟩], some (22, false)⟩ : Oper)) (v := ?_) rfl (by kernel_rfl) (by kernel_rfl) (by kernel_rfl) (fun _ _ _ h => h) (Or.inl ⟨by rfl, ?_⟩) (by assumption) ?_
      rotate_left
      · intro w hSw; (try dsimp only at hSw); go_simp; (try with_reducible rfl)
      simp only [Act.put, List.setIfInBounds_toArray, List.set_cons_zero, List.set_cons_succ]
      refine wpAnyH_take (i := 25) (oi := (⟨some 71, Op.load 38 (Operand.tmp 7), 38, "law.go:80", #[⟨24, Ground.guard⟩], some (24, true)⟩ : Oper)) (v := undef) rfl (by kernel_rfl) (by kernel_rfl) (by kernel_rfl) (fun _ _ _ h => h) (Or.inr ⟨by rfl, rfl⟩) (by assumption) ?_
      simp only [Act.put, List.setIfInBounds_toArray, List.set_cons_zero, List.set_cons_succ]
      refine wpAnyH_take (i := 27) (oi := (⟨some 73, Op.move (Operand.tmp 1), 9, "law.go:80", #[⟨24, Ground.guard⟩], some (24, true)⟩ : Oper)) (v := undef) rfl (by kernel_rfl) (by kernel_rfl) (by kernel_rfl) (fun _ _ _ h => h) (Or.inr ⟨by rfl, rfl⟩) (by assumption) ?_
      simp only [Act.put, List.setIfInBounds_toArray, List.set_cons_zero, List.set_cons_succ]
      refine wpAnyH_take (i := 26) (oi := (⟨some 72, Op.call ⟨Callee.value (Operand.func 11), #[Operand.tmp 71], #[38]⟩, 9, "law.go:80", #[⟨25, Ground.data⟩, ⟨24, Ground.chain⟩, ⟨24, Ground.guard⟩], some (24, true)⟩ : Oper)) (v := undef) rfl (by kernel_rfl) (by kernel_rfl) (by kernel_rfl) (fun _ _ _ h => h) (Or.inr ⟨by rfl, rfl⟩) (by assumption) ?_
      simp only [Act.put, List.setIfInBounds_toArray, List.set_cons_zero, List.set_cons_succ]
      refine wpAnyH_take (i := 28) (oi := (⟨some 74, Op.binOp BinOp.neq 9 (Operand.tmp 72) (Operand.tmp 73) 9, 4, "law.go:80", #[⟨26, Ground.data⟩, ⟨27, Ground.data⟩, ⟨24, Ground.guard⟩], some (24, true)⟩ : Oper)) (v := undef) rfl (by kernel_rfl) (by kernel_rfl) (by kernel_rfl) (fun _ _ _ h => h) (Or.inr ⟨by rfl, rfl⟩) (by assumption) ?_
      simp only [Act.put, List.setIfInBounds_toArray, List.set_cons_zero, List.set_cons_succ]
      refine wpAnyH_take (i := 29) (oi := (⟨some 75, Op.pick (Operand.tmp 70) (Operand.tmp 74) (Operand.const (Value.bool false)), 4, "law.go:80", #[⟨24, Ground.data⟩, ⟨28, Ground.data⟩, ⟨22, Ground.guard⟩], some (22, false)⟩ : Oper)) (v := ?_) rfl (by kernel_rfl) (by kernel_rfl) (by kernel_rfl) (fun _ _ _ h => h) (Or.inl ⟨by rfl, ?_⟩) (by assumption) ?_
      rotate_left
      · intro w hSw; (try dsimp only at hSw); go_simp; (try with_reducible rfl)
      simp only [Act.put, List.setIfInBounds_toArray, List.set_cons_zero, List.set_cons_succ]
      refine wpAnyH_take (i := 30) (oi := (⟨some 76, Op.pick (Operand.tmp 68) (Operand.const (Value.bool true)) (Operand.tmp 75), 4, "law.go:80", #[⟨22, Ground.data⟩, ⟨29, Ground.data⟩], none⟩ : Oper)) (v := ?_) rfl (by kernel_rfl) (by kernel_rfl) (by kernel_rfl) (fun _ _ _ h => h) (Or.inl ⟨by rfl, ?_⟩) (by assumption) ?_
      rotate_left
      · intro w hSw; (try dsimp only at hSw); go_simp; (try with_reducible rfl)
      simp only [Act.put, List.setIfInBounds_toArray, List.set_cons_zero, List.set_cons_succ]
      refine wpAnyH_take (i := 31) (oi := (⟨some 77, Op.move (Operand.tmp 76), 4, "law.go:80", #[⟨30, Ground.data⟩, ⟨26, Ground.chain⟩], none⟩ : Oper)) (v := ?_) rfl (by kernel_rfl) (by kernel_rfl) (by kernel_rfl) (fun _ _ _ h => h) (Or.inl ⟨by rfl, ?_⟩) (by assumption) ?_
      rotate_left
      · intro w hSw; (try dsimp only at hSw); go_simp; (try with_reducible rfl)
      simp only [Act.put, List.setIfInBounds_toArray, List.set_cons_zero, List.set_cons_succ]
      refine wpAnyH_take (i := 32) (oi := (⟨some 78, Op.move (Operand.tmp 11), 9, "law.go:80", #[⟨31, Ground.guard⟩], some (31, false)⟩ : Oper)) (v := ?_) rfl (by kernel_rfl) (by kernel_rfl) (by kernel_rfl) (fun _ _ _ h => h) (Or.inl ⟨by rfl, ?_⟩) (by assumption) ?_
      rotate_left
      · intro w hSw; (try dsimp only at hSw); go_simp; (try with_reducible rfl)
      simp only [Act.put, List.setIfInBounds_toArray, List.set_cons_zero, List.set_cons_succ]
      refine wpAnyH_take (i := 33) (oi := (⟨some 79, Op.load 40 (Operand.tmp 3), 40, "law.go:80", #[⟨31, Ground.guard⟩], some (31, false)⟩ : Oper)) (v := ?_) rfl (by kernel_rfl) (by kernel_rfl) (by kernel_rfl) (fun _ _ _ h => h) (Or.inl ⟨by rfl, ?_⟩) (by assumption) ?_
      rotate_left
      · intro w hSw; (try dsimp only at hSw); go_simp; (try with_reducible rfl)
      simp only [Act.put, List.setIfInBounds_toArray, List.set_cons_zero, List.set_cons_succ]
      refine wpAnyH_ready (rs := [34]) (by kernel_rfl) (by simp) ?_
      refine AllReadyH.cons (o := (⟨some 80, Op.call ⟨Callee.value (Operand.func 12), #[Operand.tmp 79], #[40]⟩, 9, "law.go:80", #[⟨33, Ground.data⟩, ⟨31, Ground.chain⟩, ⟨31, Ground.guard⟩], some (31, false)⟩ : Oper)) rfl (fun K hK => ?_) AllReadyH.nil
      go_simp
      go_at_call 12; (with_reducible refine (HRL2.out _ (by repeat (first | exact Fr.refl NoF _ | exact Hd.out | exact Hc.out | exact Hb.out | exact Ha.out | apply Fr.drew | apply Fr.drewN | apply Fr.alloc))).mono ?_); rintro e wd ⟨rfl, hd⟩; have Hd := Lib.hid hd; clear hd
      go_wp2_with fail
      refine hK.out _ _ ?_ (fun hHeld2 => ?_)
      · (try dsimp only); exact KS.out _ (by repeat (first | exact Fr.refl NoF _ | exact Hd.out | exact Hc.out | exact Hb.out | exact Ha.out | apply Fr.drew | apply Fr.drewN | apply Fr.alloc))
      clear hK K
      try simp only [Act.put, List.setIfInBounds_toArray, List.set_cons_zero, List.set_cons_succ]
      refine wpAnyH_take (i := 35) (oi := (⟨some 81, Op.binOp BinOp.neq 9 (Operand.tmp 78) (Operand.tmp 80) 9, 4, "law.go:80", #[⟨32, Ground.data⟩, ⟨34, Ground.data⟩, ⟨31, Ground.guard⟩], some (31, false)⟩ : Oper)) (v := ?_) rfl (by kernel_rfl) (by kernel_rfl) (by kernel_rfl) (fun _ _ _ h => h) (Or.inl ⟨by rfl, ?_⟩) (by assumption) ?_
      rotate_left
      · intro w hSw; (try dsimp only at hSw); go_simp; (try with_reducible rfl)
      simp only [Act.put, List.setIfInBounds_toArray, List.set_cons_zero, List.set_cons_succ]
      refine wpAnyH_take (i := 36) (oi := (⟨some 82, Op.pick (Operand.tmp 77) (Operand.const (Value.bool true)) (Operand.tmp 81), 4, "law.go:80", #[⟨31, Ground.data⟩, ⟨35, Ground.data⟩], none⟩ : Oper)) (v := ?_) rfl (by kernel_rfl) (by kernel_rfl) (by kernel_rfl) (fun _ _ _ h => h) (Or.inl ⟨by rfl, ?_⟩) (by assumption) ?_
      rotate_left
      · intro w hSw; (try dsimp only at hSw); go_simp; (try with_reducible rfl)
      simp only [Act.put, List.setIfInBounds_toArray, List.set_cons_zero, List.set_cons_succ]
      refine wpAnyH_take (i := 37) (oi := (⟨some 83, Op.move (Operand.tmp 82), 4, "law.go:80", #[⟨36, Ground.data⟩, ⟨34, Ground.chain⟩], none⟩ : Oper)) (v := ?_) rfl (by kernel_rfl) (by kernel_rfl) (by kernel_rfl) (fun _ _ _ h => h) (Or.inl ⟨by rfl, ?_⟩) (by assumption) ?_
      rotate_left
      · intro w hSw; (try dsimp only at hSw); go_simp; (try with_reducible rfl)
      simp only [Act.put, List.setIfInBounds_toArray, List.set_cons_zero, List.set_cons_succ]
      refine wpAnyH_take (i := 38) (oi := (⟨some 84, Op.move (Operand.tmp 13), 44, "law.go:80", #[⟨37, Ground.guard⟩], some (37, false)⟩ : Oper)) (v := ?_) rfl (by kernel_rfl) (by kernel_rfl) (by kernel_rfl) (fun _ _ _ h => h) (Or.inl ⟨by rfl, ?_⟩) (by assumption) ?_
      rotate_left
      · intro w hSw; (try dsimp only at hSw); go_simp; (try with_reducible rfl)
      simp only [Act.put, List.setIfInBounds_toArray, List.set_cons_zero, List.set_cons_succ]
      refine wpAnyH_take (i := 39) (oi := (⟨some 85, Op.binOp BinOp.eql 44 (Operand.tmp 84) (Operand.const (Value.int IntKind.i64 0)) 44, 4, "law.go:80", #[⟨38, Ground.data⟩, ⟨37, Ground.guard⟩], some (37, false)⟩ : Oper)) (v := ?_) rfl (by kernel_rfl) (by kernel_rfl) (by kernel_rfl) (fun _ _ _ h => h) (Or.inl ⟨by rfl, ?_⟩) (by assumption) ?_
      rotate_left
      · intro w hSw; (try dsimp only at hSw); go_simp; (try with_reducible rfl)
      simp only [Act.put, List.setIfInBounds_toArray, List.set_cons_zero, List.set_cons_succ]
      refine wpAnyH_take (i := 40) (oi := (⟨some 86, Op.move (Operand.tmp 11), 9, "law.go:80", #[⟨37, Ground.guard⟩], some (37, false)⟩ : Oper)) (v := ?_) rfl (by kernel_rfl) (by kernel_rfl) (by kernel_rfl) (fun _ _ _ h => h) (Or.inl ⟨by rfl, ?_⟩) (by assumption) ?_
      rotate_left
      · intro w hSw; (try dsimp only at hSw); go_simp; (try with_reducible rfl)
      simp only [Act.put, List.setIfInBounds_toArray, List.set_cons_zero, List.set_cons_succ]
      refine wpAnyH_take (i := 41) (oi := (⟨some 87, Op.binOp BinOp.neq 9 (Operand.tmp 86) (Operand.const (Value.string { data := #[] })) 9, 4, "law.go:80", #[⟨40, Ground.data⟩, ⟨37, Ground.guard⟩], some (37, false)⟩ : Oper)) (v := ?_) rfl (by kernel_rfl) (by kernel_rfl) (by kernel_rfl) (fun _ _ _ h => h) (Or.inl ⟨by rfl, ?_⟩) (by assumption) ?_
      rotate_left
      · intro w hSw; (try dsimp only at hSw); go_simp; (try with_reducible rfl)
      simp only [Act.put, List.setIfInBounds_toArray, List.set_cons_zero, List.set_cons_succ]
      refine wpAnyH_take (i := 42) (oi := (⟨some 88, Op.binOp BinOp.neq 4 (Operand.tmp 85) (Operand.tmp 87) 4, 4, "law.go:80", #[⟨39, Ground.data⟩, ⟨41, Ground.data⟩, ⟨37, Ground.guard⟩], some (37, false)⟩ : Oper)) (v := ?_) rfl (by kernel_rfl) (by kernel_rfl) (by kernel_rfl) (fun _ _ _ h => h) (Or.inl ⟨by rfl, ?_⟩) (by assumption) ?_
      rotate_left
      · intro w hSw; (try dsimp only at hSw); go_simp; (try with_reducible rfl)
      simp only [Act.put, List.setIfInBounds_toArray, List.set_cons_zero, List.set_cons_succ]
      refine wpAnyH_take (i := 43) (oi := (⟨some 89, Op.pick (Operand.tmp 83) (Operand.const (Value.bool true)) (Operand.tmp 88), 4, "law.go:80", #[⟨37, Ground.data⟩, ⟨42, Ground.data⟩], none⟩ : Oper)) (v := ?_) rfl (by kernel_rfl) (by kernel_rfl) (by kernel_rfl) (fun _ _ _ h => h) (Or.inl ⟨by rfl, ?_⟩) (by assumption) ?_
      rotate_left
      · intro w hSw; (try dsimp only at hSw); go_simp; (try with_reducible rfl)
      simp only [Act.put, List.setIfInBounds_toArray, List.set_cons_zero, List.set_cons_succ]
      refine wpAnyH_take (i := 44) (oi := (⟨some 90, Op.move (Operand.tmp 89), 4, "law.go:80", #[⟨43, Ground.data⟩, ⟨37, Ground.chain⟩], none⟩ : Oper)) (v := ?_) rfl (by kernel_rfl) (by kernel_rfl) (by kernel_rfl) (fun _ _ _ h => h) (Or.inl ⟨by rfl, ?_⟩) (by assumption) ?_
      rotate_left
      · intro w hSw; (try dsimp only at hSw); go_simp; (try with_reducible rfl)
      simp only [Act.put, List.setIfInBounds_toArray, List.set_cons_zero, List.set_cons_succ]
      refine wpAnyH_take (i := 45) (oi := (⟨some 91, Op.move (Operand.tmp 11), 9, "law.go:80", #[⟨44, Ground.guard⟩], some (44, false)⟩ : Oper)) (v := ?_) rfl (by kernel_rfl) (by kernel_rfl) (by kernel_rfl) (fun _ _ _ h => h) (Or.inl ⟨by rfl, ?_⟩) (by assumption) ?_
      rotate_left
      · intro w hSw; (try dsimp only at hSw); go_simp; (try with_reducible rfl)
      simp only [Act.put, List.setIfInBounds_toArray, List.set_cons_zero, List.set_cons_succ]
      refine wpAnyH_take (i := 46) (oi := (⟨some 92, Op.binOp BinOp.neq 9 (Operand.tmp 91) (Operand.const (Value.string { data := #[] })) 9, 4, "law.go:80", #[⟨45, Ground.data⟩, ⟨44, Ground.guard⟩], some (44, false)⟩ : Oper)) (v := ?_) rfl (by kernel_rfl) (by kernel_rfl) (by kernel_rfl) (fun _ _ _ h => h) (Or.inl ⟨by rfl, ?_⟩) (by assumption) ?_
      rotate_left
      · intro w hSw; (try dsimp only at hSw); go_simp; (try with_reducible rfl)
      simp only [Act.put, List.setIfInBounds_toArray, List.set_cons_zero, List.set_cons_succ]
      refine wpAnyH_take (i := 47) (oi := (⟨some 93, Op.move (Operand.tmp 92), 4, "law.go:80", #[⟨46, Ground.data⟩, ⟨44, Ground.chain⟩, ⟨44, Ground.guard⟩], some (44, false)⟩ : Oper)) (v := ?_) rfl (by kernel_rfl) (by kernel_rfl) (by kernel_rfl) (fun _ _ _ h => h) (Or.inl ⟨by rfl, ?_⟩) (by assumption) ?_
      rotate_left
      · intro w hSw; (try dsimp only at hSw); go_simp; (try with_reducible rfl)
      simp only [Act.put, List.setIfInBounds_toArray, List.set_cons_zero, List.set_cons_succ]
      refine wpAnyH_take (i := 48) (oi := (⟨some 94, Op.load 38 (Operand.tmp 12), 38, "law.go:80", #[⟨47, Ground.guard⟩], some (47, true)⟩ : Oper)) (v := ?_) rfl (by kernel_rfl) (by kernel_rfl) (by kernel_rfl) (fun _ _ _ h => h) (Or.inl ⟨by rfl, ?_⟩) (by assumption) ?_
      rotate_left
      · intro w hSw; (try dsimp only at hSw); go_simp; (try with_reducible rfl)
      simp only [Act.put, List.setIfInBounds_toArray, List.set_cons_zero, List.set_cons_succ]
      refine wpAnyH_take (i := 49) (oi := (⟨some 95, Op.load 40 (Operand.tmp 3), 40, "law.go:80", #[⟨47, Ground.guard⟩], some (47, true)⟩ : Oper)) (v := ?_) rfl (by kernel_rfl) (by kernel_rfl) (by kernel_rfl) (fun _ _ _ h => h) (Or.inl ⟨by rfl, ?_⟩) (by assumption) ?_
      rotate_left
      · intro w hSw; (try dsimp only at hSw); go_simp; (try with_reducible rfl)
      simp only [Act.put, List.setIfInBounds_toArray, List.set_cons_zero, List.set_cons_succ]
      refine wpAnyH_ready (rs := [50]) (by kernel_rfl) (by simp) ?_
      refine AllReadyH.cons (o := (⟨some 96, Op.call ⟨Callee.value (Operand.func 8), #[Operand.tmp 95], #[40]⟩, 38, "law.go:80", #[⟨49, Ground.data⟩, ⟨47, Ground.chain⟩, ⟨47, Ground.guard⟩], some (47, true)⟩ : Oper)) rfl (fun K hK => ?_) AllReadyH.nil
      go_simp
      go_at_call 8; (with_reducible refine (HTO2.out _ _ _ _ (by repeat (first | exact Fr.refl NoF _ | exact Hd.out | exact Hc.out | exact Hb.out | exact Ha.out | apply Fr.drew | apply Fr.drewN | apply Fr.alloc))).mono ?_); rintro e wb ⟨rfl, hb⟩; have Hb := Lib.hid hb; clear hb
      go_wp2_with fail
      refine hK.out _ _ ?_ (fun hHeld2 => ?_)
      · (try dsimp only); exact KS.out _ (by repeat (first | exact Fr.refl NoF _ | exact Hd.out | exact Hc.out | exact Hb.out | exact Ha.out | apply Fr.drew | apply Fr.drewN | apply Fr.alloc))
      clear hK K
      try simp only [Act.put, List.setIfInBounds_toArray, List.set_cons_zero, List.set_cons_succ]
      refine wpAnyH_take (i := 51) (oi := (⟨some 97, Op.binOp BinOp.neq 38 (Operand.tmp 94) (Operand.tmp 96) 38, 4, "law.go:80", #[⟨48, Ground.data⟩, ⟨50, Ground.data⟩, ⟨47, Ground.guard⟩], some (47, true)⟩ : Oper)) (v := ?_) rfl (by kernel_rfl) (by kernel_rfl) (by kernel_rfl) (fun _ _ _ h => h) (Or.inl ⟨by rfl, ?_⟩) (by assumption) ?_
      rotate_left
      · intro w hSw; (try dsimp only at hSw); go_simp; (try with_reducible rfl)
      simp only [Act.put, List.setIfInBounds_toArray, List.set_cons_zero, List.set_cons_succ]
      refine wpAnyH_take (i := 52) (oi := (⟨some 98, Op.pick (Operand.tmp 93) (Operand.tmp 97) (Operand.const (Value.bool false)), 4, "law.go:80", #[⟨47, Ground.data⟩, ⟨51, Ground.data⟩, ⟨44, Ground.guard⟩], some (44, false)⟩ : Oper)) (v := ?_) rfl (by kernel_rfl) (by kernel_rfl) (by kernel_rfl) (fun _ _ _ h => h) (Or.inl ⟨by rfl, ?_⟩) (by assumption) ?_
      rotate_left
      · intro w hSw; (try dsimp only at hSw); go_simp; (try with_reducible rfl)
      simp only [Act.put, List.setIfInBounds_toArray, List.set_cons_zero, List.set_cons_succ]
      refine wpAnyH_take (i := 53) (oi := (⟨some 99, Op.pick (Operand.tmp 90) (Operand.const (Value.bool true)) (Operand.tmp 98), 4, "law.go:80", #[⟨44, Ground.data⟩, ⟨52, Ground.data⟩], none⟩ : Oper)) (v := ?_) rfl (by kernel_rfl) (by kernel_rfl) (by kernel_rfl) (fun _ _ _ h => h) (Or.inl ⟨by rfl, ?_⟩) (by assumption) ?_
      rotate_left
      · intro w hSw; (try dsimp only at hSw); go_simp; (try with_reducible rfl)
      simp only [Act.put, List.setIfInBounds_toArray, List.set_cons_zero, List.set_cons_succ]
      refine wpAnyH_done (by kernel_rfl) ?_ _
      clear KS HRL2
      go_wp2_with fail
      go_region_held3 (fun w' => w'.cell? ⟨w.heap.size, 0, none⟩ = some (.int .i64 k) ∧ w'.cell? ⟨w.heap.size, 1, none⟩ = some (.int .u32 (id : Nat)) ∧ w'.cell? ⟨w.heap.size, 2, none⟩ = some (.int .u64 (v : Nat)) ∧ w'.cell? ⟨w.heap.size + 1, 0, none⟩ = some (.int .i64 (er : Nat)) ∧ w'.cell? ⟨w.heap.size + 1, 1, none⟩ = some (.int .u32 (aid : Nat)) ∧ w'.cell? ⟨w.heap.size + 1, 2, none⟩ = some (.int .u64 (av : Nat)))
        (exact KS2.out _ (by repeat (first | exact Fr.refl NoF _ | exact Hf.out | exact He.out | exact Hb.out | exact Hd.out | exact Hc.out | exact Ha.out | apply Fr.drew | apply Fr.drewN | apply Fr.alloc)))
        (first
          | (go_at_call 8; (with_reducible refine (HTO2.out _ _ _ _ (by repeat (first | exact Fr.refl NoF _ | exact Hf.out | exact He.out | exact Hb.out | exact Hd.out | exact Hc.out | exact Ha.out | apply Fr.drew | apply Fr.drewN | apply Fr.alloc))).mono ?_); rintro e wb ⟨rfl, hb⟩; have Hb := Lib.hid hb; clear hb)
          | (go_at_call 13; (with_reducible refine (HTL2.out _ (by repeat (first | exact Fr.refl NoF _ | exact Hf.out | exact He.out | exact Hb.out | exact Hd.out | exact Hc.out | exact Ha.out | apply Fr.drew | apply Fr.drewN | apply Fr.alloc))).mono ?_); rintro e we ⟨rfl, he⟩; have He := Lib.hid he; clear he)
          | (go_at_call 14; (with_reducible refine (HRT2.out _ (by repeat (first | exact Fr.refl NoF _ | exact Hf.out | exact He.out | exact Hb.out | exact Hd.out | exact Hc.out | exact Ha.out | apply Fr.drew | apply Fr.drewN | apply Fr.alloc))).mono ?_); rintro e wf ⟨rfl, hf⟩; have Hf := Lib.hid hf; clear hf))
      all_goals
        go_wp2
        go_returns
        exact ⟨rfl, Fr.trans (G := NoF) H5.out (by repeat (first | exact Fr.refl NoF _ | exact Hf.out | exact He.out | exact Hb.out | exact Hd.out | exact Hc.out | exact Ha.out | apply Fr.drew | apply Fr.drewN | apply Fr.alloc)) (fun _ q => q.elim)⟩
    · clear HZ5
      have qw1 : sW.toList = [] := HEW.out.2 hem
      clear hem
      have KS : Hid (∀ W, Fr NoF wz W → (fun w' => w'.cell? ⟨w.heap.size, 0, none⟩ = some (.int .i64 k) ∧ w'.cell? ⟨w.heap.size, 1, none⟩ = some (.int .u32 (id : Nat)) ∧ w'.cell? ⟨w.heap.size, 2, none⟩ = some (.int .u64 (v : Nat)) ∧ w'.cell? ⟨b7, 0, none⟩ = some (.int .i64 ky) ∧ w'.cell? ⟨b7, 1, none⟩ = some (.int .u32 (iy : Nat)) ∧ w'.cell? ⟨b7, 2, none⟩ = some (.int .u64 (vy : Nat)) ∧ w'.cell? ⟨b9, 0, none⟩ = some (.int .i64 ky) ∧ w'.cell? ⟨b9, 1, none⟩ = some (.int .u32 (iy : Nat)) ∧ w'.cell? ⟨b9, 2, none⟩ = some (.int .u64 (vy : Nat)) ∧ w'.cell? ⟨b12, 0, none⟩ = some (.int .i64 kz) ∧ w'.cell? ⟨b12, 1, none⟩ = some (.int .u32 (iz : Nat)) ∧ w'.cell? ⟨b12, 2, none⟩ = some (.int .u64 (vz : Nat))) W) := fun W f =>
        ⟨(B3.out.fr f (fun q => q)).three.1, (B3.out.fr f (fun q => q)).three.2.1, (B3.out.fr f (fun q => q)).three.2.2, (B7.out.fr f (fun q => q)).three.1, (B7.out.fr f (fun q => q)).three.2.1, (B7.out.fr f (fun q => q)).three.2.2, (B9.out.fr f (fun q => q)).three.1, (B9.out.fr f (fun q => q)).three.2.1, (B9.out.fr f (fun q => q)).three.2.2, (B12.out.fr f (fun q => q)).three.1, (B12.out.fr f (fun q => q)).three.2.1, (B12.out.fr f (fun q => q)).three.2.2⟩
      refine wp_region_held_drew (S := (fun w' => w'.cell? ⟨w.heap.size, 0, none⟩ = some (.int .i64 k) ∧ w'.cell? ⟨w.heap.size, 1, none⟩ = some (.int .u32 (id : Nat)) ∧ w'.cell? ⟨w.heap.size, 2, none⟩ = some (.int .u64 (v : Nat)) ∧ w'.cell? ⟨b7, 0, none⟩ = some (.int .i64 ky) ∧ w'.cell? ⟨b7, 1, none⟩ = some (.int .u32 (iy : Nat)) ∧ w'.cell? ⟨b7, 2, none⟩ = some (.int .u64 (vy : Nat)) ∧ w'.cell? ⟨b9, 0, none⟩ = some (.int .i64 ky) ∧ w'.cell? ⟨b9, 1, none⟩ = some (.int .u32 (iy : Nat)) ∧ w'.cell? ⟨b9, 2, none⟩ = some (.int .u64 (vy : Nat)) ∧ w'.cell? ⟨b12, 0, none⟩ = some (.int .i64 kz) ∧ w'.cell? ⟨b12, 1, none⟩ = some (.int .u32 (iz : Nat)) ∧ w'.cell? ⟨b12, 2, none⟩ = some (.int .u64 (vz : Nat)))) (by kernel_rfl) ?_ (fun hHeld => ?_)
      · (try dsimp only); exact KS.out _ (by repeat (first | exact Fr.refl NoF _ | exact Hd.out | exact Hc.out | exact Hb.out | exact Ha.out | apply Fr.drew | apply Fr.drewN | apply Fr.alloc))
      refine wpAnyH_ready (rs := [0]) (by kernel_rfl) (by simp) ?_
      refine AllReadyH.cons (o := (⟨some 46, Op.call ⟨Callee.value (Operand.func 7), #[], #[]⟩, 4, "law.go:80", #[], none⟩ : Oper)) rfl (fun K hK => ?_) AllReadyH.nil
      go_simp
      go_at_call 7; (with_reducible refine (HTD2.out _ (by repeat (first | exact Fr.refl NoF _ | exact Hd.out | exact Hc.out | exact Hb.out | exact Ha.out | apply Fr.drew | apply Fr.drewN | apply Fr.alloc))).mono ?_); rintro e wa ⟨rfl, ha⟩; have Ha := Lib.hid ha; clear ha
      go_wp2_with fail
      refine hK.out _ _ ?_ (fun hHeld2 => ?_)
      · (try dsimp only); exact KS.out _ (by repeat (first | exact Fr.refl NoF _ | exact Hd.out | exact Hc.out | exact Hb.out | exact Ha.out | apply Fr.drew | apply Fr.drewN | apply Fr.alloc))
      clear hK K
      try simp only [Act.put, List.setIfInBounds_toArray, List.set_cons_zero, List.set_cons_succ]
      refine wpAnyH_take (i := 1) (oi := (⟨some 47, Op.unOp UnOp.not 4 (Operand.tmp 46), 4, "law.go:80", #[⟨0, Ground.data⟩], none⟩ : Oper)) (v := ?_) rfl (by kernel_rfl) (by kernel_rfl) (by kernel_rfl) (fun _ _ _ h => h) (Or.inl ⟨by rfl, ?_⟩) (by assumption) ?_
      rotate_left
      · intro w hSw; (try dsimp only at hSw); go_simp; (try with_reducible rfl)
      simp only [Act.put, List.setIfInBounds_toArray, List.set_cons_zero, List.set_cons_succ]
      refine wpAnyH_take (i := 2) (oi := (⟨some 48, Op.move (Operand.tmp 47), 4, "law.go:80", #[⟨1, Ground.data⟩, ⟨0, Ground.chain⟩], none⟩ : Oper)) (v := ?_) rfl (by kernel_rfl) (by kernel_rfl) (by kernel_rfl) (fun _ _ _ h => h) (Or.inl ⟨by rfl, ?_⟩) (by assumption) ?_
      rotate_left
      · intro w hSw; (try dsimp only at hSw); go_simp; (try with_reducible rfl)
      simp only [Act.put, List.setIfInBounds_toArray, List.set_cons_zero, List.set_cons_succ]
      refine wpAnyH_take (i := 3) (oi := (⟨some 49, Op.load 38 (Operand.tmp 7), 38, "law.go:80", #[⟨2, Ground.guard⟩], some (2, false)⟩ : Oper)) (v := ?_) rfl (by kernel_rfl) (by kernel_rfl) (by kernel_rfl) (fun _ _ _ h => h) (Or.inl ⟨by rfl, ?_⟩) (by assumption) ?_
      rotate_left
      · intro w hSw; (try dsimp only at hSw); go_simp; (try with_reducible rfl)
      simp only [Act.put, List.setIfInBounds_toArray, List.set_cons_zero, List.set_cons_succ]
      refine wpAnyH_take (i := 4) (oi := (⟨some 50, Op.load 40 (Operand.tmp 9), 40, "law.go:80", #[⟨2, Ground.guard⟩], some (2, false)⟩ : Oper)) (v := ?_) rfl (by kernel_rfl) (by kernel_rfl) (by kernel_rfl) (fun _ _ _ h => h) (Or.inl ⟨by rfl, ?_⟩) (by assumption) ?_
      rotate_left
      · intro w hSw; (try dsimp only at hSw); go_simp; (try with_reducible rfl)
      simp only [Act.put, List.setIfInBounds_toArray, List.set_cons_zero, List.set_cons_succ]
      refine wpAnyH_ready (rs := [5]) (by kernel_rfl) (by simp) ?_
      refine AllReadyH.cons (o := (⟨some 51, Op.call ⟨Callee.value (Operand.func 8), #[Operand.tmp 50], #[40]⟩, 38, "law.go:80", #[⟨4, Ground.data⟩, ⟨2, Ground.chain⟩, ⟨2, Ground.guard⟩], some (2, false)⟩ : Oper)) rfl (fun K hK => ?_) AllReadyH.nil
      go_simp
      go_at_call 8; (with_reducible refine (HTO2.out _ _ _ _ (by repeat (first | exact Fr.refl NoF _ | exact Hd.out | exact Hc.out | exact Hb.out | exact Ha.out | apply Fr.drew | apply Fr.drewN | apply Fr.alloc))).mono ?_); rintro e wb ⟨rfl, hb⟩; have Hb := Lib.hid hb; clear hb
      go_wp2_with fail
      refine hK.out _ _ ?_ (fun hHeld2 => ?_)
      · (try dsimp only); exact KS.out _ (by repeat (first | exact Fr.refl NoF _ | exact Hd.out | exact Hc.out | exact Hb.out | exact Ha.out | apply Fr.drew | apply Fr.drewN | apply Fr.alloc))
      clear hK K
      try simp only [Act.put, List.setIfInBounds_toArray, List.set_cons_zero, List.set_cons_succ]
      refine wpAnyH_take (i := 6) (oi := (⟨some 52, Op.binOp BinOp.neq 38 (Operand.tmp 49) (Operand.tmp 51) 38, 4, "law.go:80", #[⟨3, Ground.data⟩, ⟨5, Ground.data⟩, ⟨2, Ground.guard⟩], some (2, false)⟩ : Oper)) (v := ?_) rfl (by kernel_rfl) (by kernel_rfl) (by kernel_rfl) (fun _ _ _ h => h) (Or.inl ⟨by rfl, ?_⟩) (by assumption) ?_
      rotate_left
      · intro w hSw; (try dsimp only at hSw); go_simp; (try with_reducible rfl)
      simp only [Act.put, List.setIfInBounds_toArray, List.set_cons_zero, List.set_cons_succ]
      refine wpAnyH_take (i := 7) (oi := (⟨some 53, Op.pick (Operand.tmp 48) (Operand.const (Value.bool true)) (Operand.tmp 52), 4, "law.go:80", #[⟨2, Ground.data⟩, ⟨6, Ground.data⟩], none⟩ : Oper)) (v := ?_) rfl (by kernel_rfl) (by kernel_rfl) (by kernel_rfl) (fun _ _ _ h => h) (Or.inl ⟨by rfl, ?_⟩) (by assumption) ?_
      rotate_left
      · intro w hSw; (try dsimp only at hSw); go_simp; (try with_reducible rfl)
      simp only [Act.put, List.setIfInBounds_toArray, List.set_cons_zero, List.set_cons_succ]
      refine wpAnyH_take (i := 8) (oi := (⟨some 54, Op.move (Operand.tmp 53), 4, "law.go:80", #[⟨7, Ground.data⟩, ⟨5, Ground.chain⟩], none⟩ : Oper)) (v := ?_) rfl (by kernel_rfl) (by kernel_rfl) (by kernel_rfl) (fun _ _ _ h => h) (Or.inl ⟨by rfl, ?_⟩) (by assumption) ?_
      rotate_left
      · intro w hSw; (try dsimp only at hSw); go_simp; (try with_reducible rfl)
      simp only [Act.put, List.setIfInBounds_toArray, List.set_cons_zero, List.set_cons_succ]
      refine wpAnyH_take (i := 9) (oi := (⟨some 55, Op.move (Operand.tmp 8), 44, "law.go:80", #[⟨8, Ground.guard⟩], some (8, false)⟩ : Oper)) (v := ?_) rfl (by kernel_rfl) (by kernel_rfl) (by kernel_rfl) (fun _ _ _ h => h) (Or.inl ⟨by rfl, ?_⟩) (by assumption) ?_
      rotate_left
      · intro w hSw; (try dsimp only at hSw); go_simp; (try with_reducible rfl)
      simp only [Act.put, List.setIfInBounds_toArray, List.set_cons_zero, List.set_cons_succ]
      refine wpAnyH_take (i := 10) (oi := (⟨some 56, Op.binOp BinOp.eql 44 (Operand.tmp 55) (Operand.const (Value.int IntKind.i64 0)) 44, 4, "law.go:80", #[⟨9, Ground.data⟩, ⟨8, Ground.guard⟩], some (8, false)⟩ : Oper)) (v := ?_) rfl (by kernel_rfl) (by kernel_rfl) (by kernel_rfl) (fun _ _ _ h => h) (Or.inl ⟨by rfl, ?_⟩) (by assumption) ?_
      rotate_left
      · intro w hSw; (try dsimp only at hSw); go_simp; (try with_reducible rfl)
      simp only [Act.put, List.setIfInBounds_toArray, List.set_cons_zero, List.set_cons_succ]
      refine wpAnyH_take (i := 11) (oi := (⟨some 57, Op.move (Operand.tmp 10), 4, "law.go:80", #[⟨8, Ground.guard⟩], some (8, false)⟩ : Oper)) (v := ?_) rfl (by kernel_rfl) (by kernel_rfl) (by kernel_rfl) (fun _ _ _ h => h) (Or.inl ⟨by rfl, ?_⟩) (by assumption) ?_
      rotate_left
      · intro w hSw; (try dsimp only at hSw); go_simp; (try with_reducible rfl)
      simp only [Act.put, List.setIfInBounds_toArray, List.set_cons_zero, List.set_cons_succ]
      refine wpAnyH_take (i := 12) (oi := (⟨some 58, Op.binOp BinOp.neq 4 (Operand.tmp 56) (Operand.tmp 57) 4, 4, "law.go:80", #[⟨10, Ground.data⟩, ⟨11, Ground.data⟩, ⟨8, Ground.guard⟩], some (8, false)⟩ : Oper)) (v := ?_) rfl (by kernel_rfl) (by kernel_rfl) (by kernel_rfl) (fun _ _ _ h => h) (Or.inl ⟨by rfl, ?_⟩) (by assumption) ?_
      rotate_left
      · intro w hSw; (try dsimp only at hSw); go_simp; (try with_reducible rfl)
      simp only [Act.put, List.setIfInBounds_toArray, List.set_cons_zero, List.set_cons_succ]
      refine wpAnyH_take (i := 13) (oi := (⟨some 59, Op.pick (Operand.tmp 54) (Operand.const (Value.bool true)) (Operand.tmp 58), 4, "law.go:80", #[⟨8, Ground.data⟩, ⟨12, Ground.data⟩], none⟩ : Oper)) (v := ?_) rfl (by kernel_rfl) (by kernel_rfl) (by kernel_rfl) (fun _ _ _ h => h) (Or.inl ⟨by rfl, ?_⟩) (by assumption) ?_
      rotate_left
      · intro w hSw; (try dsimp only at hSw); go_simp; (try with_reducible rfl)
      simp only [Act.put, List.setIfInBounds_toArray, List.set_cons_zero, List.set_cons_succ]
      refine wpAnyH_take (i := 14) (oi := (⟨some 60, Op.move (Operand.tmp 59), 4, "law.go:80", #[⟨13, Ground.data⟩, ⟨8, Ground.chain⟩], none⟩ : Oper)) (v := ?_) rfl (by kernel_rfl) (by kernel_rfl) (by kernel_rfl) (fun _ _ _ h => h) (Or.inl ⟨by rfl, ?_⟩) (by assumption) ?_
      rotate_left
      · intro w hSw; (try dsimp only at hSw); go_simp; (try with_reducible rfl)
      simp only [Act.put, List.setIfInBounds_toArray, List.set_cons_zero, List.set_cons_succ]
      refine wpAnyH_take (i := 15) (oi := (⟨some 61, Op.move (Operand.tmp 10), 4, "law.go:80", #[⟨14, Ground.guard⟩], some (14, false)⟩ : Oper)) (v := ?_) rfl (by kernel_rfl) (by kernel_rfl) (by kernel_rfl) (fun _ _ _ h => h) (Or.inl ⟨by rfl, ?_⟩) (by assumption) ?_
      rotate_left
      · intro w hSw; (try dsimp only at hSw); go_simp; (try with_reducible rfl)
      simp only [Act.put, List.setIfInBounds_toArray, List.set_cons_zero, List.set_cons_succ]
      refine wpAnyH_take (i := 16) (oi := (⟨some 62, Op.unOp UnOp.not 4 (Operand.tmp 61), 4, "law.go:80", #[⟨15, Ground.data⟩, ⟨14, Ground.guard⟩], some (14, false)⟩ : Oper)) (v := ?_) rfl (by kernel_rfl) (by kernel_rfl) (by kernel_rfl) (fun _ _ _ h => h) (Or.inl ⟨by rfl, ?_⟩) (by assumption) ?_
      rotate_left
      · intro w hSw; (try dsimp only at hSw); go_simp; (try with_reducible rfl)
      simp only [Act.put, List.setIfInBounds_toArray, List.set_cons_zero, List.set_cons_succ]
      refine wpAnyH_take (i := 17) (oi := (⟨some 63, Op.move (Operand.tmp 62), 4, "law.go:80", #[⟨16, Ground.data⟩, ⟨14, Ground.chain⟩, ⟨14, Ground.guard⟩], some (14, false)⟩ : Oper)) (v := ?_) rfl (by kernel_rfl) (by kernel_rfl) (by kernel_rfl) (fun _ _ _ h => h) (Or.inl ⟨by rfl, ?_⟩) (by assumption) ?_
      rotate_left
      · intro w hSw; (try dsimp only at hSw); go_simp; (try with_reducible rfl)
      simp only [Act.put, List.setIfInBounds_toArray, List.set_cons_zero, List.set_cons_succ]
      refine wpAnyH_take (i := 18) (oi := (⟨some 64, Op.move (Operand.tmp 8), 44, "law.go:80", #[⟨17, Ground.guard⟩], some (17, true)⟩ : Oper)) (v := ?_) rfl (by kernel_rfl) (by kernel_rfl) (by kernel_rfl) (fun _ _ _ h => h) (Or.inl ⟨by rfl, ?_⟩) (by assumption) ?_
      rotate_left
      · intro w hSw; (try dsimp only at hSw); go_simp; (try with_reducible rfl)
      simp only [Act.put, List.setIfInBounds_toArray, List.set_cons_zero, List.set_cons_succ]
      refine wpAnyH_take (i := 19) (oi := (⟨some 65, Op.binOp BinOp.neq 44 (Operand.tmp 64) (Operand.const (Value.int IntKind.i64 8)) 44, 4, "law.go:80", #[⟨18, Ground.data⟩, ⟨17, Ground.guard⟩], some (17, true)⟩ : Oper)) (v := ?_) rfl (by kernel_rfl) (by kernel_rfl) (by kernel_rfl) (fun _ _ _ h => h) (Or.inl ⟨by rfl, ?_⟩) (by assumption) ?_
      rotate_left
      · intro w hSw; (try dsimp only at hSw); go_simp; (try with_reducible rfl)
      simp only [Act.put, List.setIfInBounds_toArray, List.set_cons_zero, List.set_cons_succ]
      refine wpAnyH_take (i := 20) (oi := (⟨some 66, Op.pick (Operand.tmp 63) (Operand.tmp 65) (Operand.const (Value.bool false)), 4, "law.go:80", #[⟨17, Ground.data⟩, ⟨19, Ground.data⟩, ⟨14, Ground.guard⟩], some (14, false)⟩ : Oper)) (v := ?_) rfl (by kernel_rfl) (by kernel_rfl) (by kernel_rfl) (fun _ _ _ h => h) (Or.inl ⟨by rfl, ?_⟩) (by assumption) ?_
      rotate_left
      · intro w hSw; (try dsimp only at hSw); go_simp; (try with_reducible rfl)
      simp only [Act.put, List.setIfInBounds_toArray, List.set_cons_zero, List.set_cons_succ]
      refine wpAnyH_take (i := 21) (oi := (⟨some 67, Op.pick (Operand.tmp 60) (Operand.const (Value.bool true)) (Operand.tmp 66), 4, "law.go:80", #[⟨14, Ground.data⟩, ⟨20, Ground.data⟩], none⟩ : Oper)) (v := ?_) rfl (by kernel_rfl) (by kernel_rfl) (by kernel_rfl) (fun _ _ _ h => h) (Or.inl ⟨by rfl, ?_⟩) (by assumption) ?_
      rotate_left
      · intro w hSw; (try dsimp only at hSw); go_simp; (try with_reducible rfl)
      simp only [Act.put, List.setIfInBounds_toArray, List.set_cons_zero, List.set_cons_succ]
      refine wpAnyH_take (i := 22) (oi := (⟨some 68, Op.move (Operand.tmp 67), 4, "law.go:80", #[⟨21, Ground.data⟩, ⟨17, Ground.chain⟩], none⟩ : Oper)) (v := ?_) rfl (by kernel_rfl) (by kernel_rfl) (by kernel_rfl) (fun _ _ _ h => h) (Or.inl ⟨by rfl, ?_⟩) (by assumption) ?_
      rotate_left
      · intro w hSw; (try dsimp only at hSw); go_simp; (try with_reducible rfl)
      simp only [Act.put, List.setIfInBounds_toArray, List.set_cons_zero, List.set_cons_succ]
      refine wpAnyH_take (i := 23) (oi := (⟨some 69, Op.move (Operand.tmp 10), 4, "law.go:80", #[⟨22, Ground.guard⟩], some (22, false)⟩ : Oper)) (v := ?_) rfl (by kernel_rfl) (by kernel_rfl) (by kernel_rfl) (fun _ _ _ h => h) (Or.inl ⟨by rfl, ?_⟩) (by assumption) ?_
      rotate_left
      · intro w hSw; (try dsimp only at hSw); go_simp; (try with_reducible rfl)
      simp only [Act.put, List.setIfInBounds_toArray, List.set_cons_zero, List.set_cons_succ]
      refine wpAnyH_take (i := 24) (oi := (⟨some 70, Op.move (Operand.tmp 69), 4, "law.go:80", #[⟨23, Ground.data⟩, ⟨22, Ground.chain⟩, ⟨22, Ground.guard⟩], some (22, false)⟩ : Oper)) (v := ?_) rfl (by kernel_rfl) (by kernel_rfl) (by kernel_rfl) (fun _ _ _ h => h) (Or.inl ⟨by rfl, ?_⟩) (by assumption) ?_
      rotate_left
      · intro w hSw; (try dsimp only at hSw); go_simp; (try with_reducible rfl)
      simp only [Act.put, List.setIfInBounds_toArray, List.set_cons_zero, List.set_cons_succ]
      refine wpAnyH_take (i := 25) (oi := (⟨some 71, Op.load 38 (Operand.tmp 7), 38, "law.go:80", #[⟨24, Ground.guard⟩], some (24, true)⟩ : Oper)) (v := undef) rfl (by kernel_rfl) (by kernel_rfl) (by kernel_rfl) (fun _ _ _ h => h) (Or.inr ⟨by rfl, rfl⟩) (by assumption) ?_
      simp only [Act.put, List.setIfInBounds_toArray, List.set_cons_zero, List.set_cons_succ]
      refine wpAnyH_take (i := 27) (oi := (⟨some 73, Op.move (Operand.tmp 1), 9, "law.go:80", #[⟨24, Ground.guard⟩], some (24, true)⟩ : Oper)) (v := undef) rfl (by kernel_rfl) (by kernel_rfl) (by kernel_rfl) (fun _ _ _ h => h) (Or.inr ⟨by rfl, rfl⟩) (by assumption) ?_
      simp only [Act.put, List.setIfInBounds_toArray, List.set_cons_zero, List.set_cons_succ]
      refine wpAnyH_take (i := 26) (oi := (⟨some 72, Op.call ⟨Callee.value (Operand.func 11), #[Operand.tmp 71], #[38]⟩, 9, "law.go:80", #[⟨25, Ground.data⟩, ⟨24, Ground.chain⟩, ⟨24, Ground.guard⟩], some (24, true)⟩ : Oper)) (v := undef) rfl (by kernel_rfl) (by kernel_rfl) (by kernel_rfl) (fun _ _ _ h => h) (Or.inr ⟨by rfl, rfl⟩) (by assumption) ?_
      simp only [Act.put, List.setIfInBounds_toArray, List.set_cons_zero, List.set_cons_succ]
      refine wpAnyH_take (i := 28) (oi := (⟨some 74, Op.binOp BinOp.neq 9 (Operand.tmp 72) (Operand.tmp 73) 9, 4, "law.go:80", #[⟨26, Ground.data⟩, ⟨27, Ground.data⟩, ⟨24, Ground.guard⟩], some (24, true)⟩ : Oper)) (v := undef) rfl (by kernel_rfl) (by kernel_rfl) (by kernel_rfl) (fun _ _ _ h => h) (Or.inr ⟨by rfl, rfl⟩) (by assumption) ?_
      simp only [Act.put, List.setIfInBounds_toArray, List.set_cons_zero, List.set_cons_succ]
      refine wpAnyH_take (i := 29) (oi := (⟨some 75, Op.pick (Operand.tmp 70) (Operand.tmp 74) (Operand.const (Value.bool false)), 4, "law.go:80", #[⟨24, Ground.data⟩, ⟨28, Ground.data⟩, ⟨22, Ground.guard⟩], some (22, false)⟩ : Oper)) (v := ?_) rfl (by kernel_rfl) (by kernel_rfl) (by kernel_rfl) (fun _ _ _ h => h) (Or.inl ⟨by rfl, ?_⟩) (by assumption) ?_
      rotate_left
      · intro w hSw; (try dsimp only at hSw); go_simp; (try with_reducible rfl)
      simp only [Act.put, List.setIfInBounds_toArray, List.set_cons_zero, List.set_cons_succ]
      refine wpAnyH_take (i := 30) (oi := (⟨some 76, Op.pick (Operand.tmp 68) (Operand.const (Value.bool true)) (Operand.tmp 75), 4, "law.go:80", #[⟨22, Ground.data⟩, ⟨29, Ground.data⟩], none⟩ : Oper)) (v := ?_) rfl (by kernel_rfl) (by kernel_rfl) (by kernel_rfl) (fun _ _ _ h => h) (Or.inl ⟨by rfl, ?_⟩) (by assumption) ?_
      rotate_left
      · intro w hSw; (try dsimp only at hSw); go_simp; (try with_reducible rfl)
      simp only [Act.put, List.setIfInBounds_toArray, List.set_cons_zero, List.set_cons_succ]
      refine wpAnyH_take (i := 31) (oi := (⟨some 77, Op.move (Operand.tmp 76), 4, "law.go:80", #[⟨30, Ground.data⟩, ⟨26, Ground.chain⟩], none⟩ : Oper)) (v := ?_) rfl (by kernel_rfl) (by kernel_rfl) (by kernel_rfl) (fun _ _ _ h => h) (Or.inl ⟨by rfl, ?_⟩) (by assumption) ?_
      rotate_left
      · intro w hSw; (try dsimp only at hSw); go_simp; (try with_reducible rfl)
      simp only [Act.put, List.setIfInBounds_toArray, List.set_cons_zero, List.set_cons_succ]
      refine wpAnyH_take (i := 32) (oi := (⟨some 78, Op.move (Operand.tmp 11), 9, "law.go:80", #[⟨31, Ground.guard⟩], some (31, false)⟩ : Oper)) (v := ?_) rfl (by kernel_rfl) (by kernel_rfl) (by kernel_rfl) (fun _ _ _ h => h) (Or.inl ⟨by rfl, ?_⟩) (by assumption) ?_
      rotate_left
      · intro w hSw; (try dsimp only at hSw); go_simp; (try with_reducible rfl)
      simp only [Act.put, List.setIfInBounds_toArray, List.set_cons_zero, List.set_cons_succ]
      refine wpAnyH_take (i := 33) (oi := (⟨some 79, Op.load 40 (Operand.tmp 3), 40, "law.go:80", #[⟨31, Ground.guard⟩], some (31, false)⟩ : Oper)) (v := ?_) rfl (by kernel_rfl) (by kernel_rfl) (by kernel_rfl) (fun _ _ _ h => h) (Or.inl ⟨by rfl, ?_⟩) (by assumption) ?_
      rotate_left
      · intro w hSw; (try dsimp only at hSw); go_simp; (try with_reducible rfl)
      simp only [Act.put, List.setIfInBounds_toArray, List.set_cons_zero, List.set_cons_succ]
      refine wpAnyH_ready (rs := [34]) (by kernel_rfl) (by simp) ?_
      refine AllReadyH.cons (o := (⟨some 80, Op.call ⟨Callee.value (Operand.func 12), #[Operand.tmp 79], #[40]⟩, 9, "law.go:80", #[⟨33, Ground.data⟩, ⟨31, Ground.chain⟩, ⟨31, Ground.guard⟩], some (31, false)⟩ : Oper)) rfl (fun K hK => ?_) AllReadyH.nil
      go_simp
      go_at_call 12; (with_reducible refine (HRL2.out _ (by repeat (first | exact Fr.refl NoF _ | exact Hd.out | exact Hc.out | exact Hb.out | exact Ha.out | apply Fr.drew | apply Fr.drewN | apply Fr.alloc))).mono ?_); rintro e wd ⟨rfl, hd⟩; have Hd := Lib.hid hd; clear hd
      go_wp2_with fail
      refine hK.out _ _ ?_ (fun hHeld2 => ?_)
      · (try dsimp only); exact KS.out _ (by repeat (first | exact Fr.refl NoF _ | exact Hd.out | exact Hc.out | exact Hb.out | exact Ha.out | apply Fr.drew | apply Fr.drewN | apply Fr.alloc))
      clear hK K
      try simp only [Act.put, List.setIfInBounds_toArray, List.set_cons_zero, List.set_cons_succ]
      refine wpAnyH_take (i := 35) (oi := (⟨some 81, Op.binOp BinOp.neq 9 (Operand.tmp 78) (Operand.tmp 80) 9, 4, "law.go:80", #[⟨32, Ground.data⟩, ⟨34, Ground.data⟩, ⟨31, Ground.guard⟩], some (31, false)⟩ : Oper)) (v := ?_) rfl (by kernel_rfl) (by kernel_rfl) (by kernel_rfl) (fun _ _ _ h => h) (Or.inl ⟨by rfl, ?_⟩) (by assumption) ?_
      rotate_left
      · intro w hSw; (try dsimp only at hSw); go_simp; (try with_reducible rfl)
      simp only [Act.put, List.setIfInBounds_toArray, List.set_cons_zero, List.set_cons_succ]
      refine wpAnyH_take (i := 36) (oi := (⟨some 82, Op.pick (Operand.tmp 77) (Operand.const (Value.bool true)) (Operand.tmp 81), 4, "law.go:80", #[⟨31, Ground.data⟩, ⟨35, Ground.data⟩], none⟩ : Oper)) (v := ?_) rfl (by kernel_rfl) (by kernel_rfl) (by kernel_rfl) (fun _ _ _ h => h) (Or.inl ⟨by rfl, ?_⟩) (by assumption) ?_
      rotate_left
      · intro w hSw; (try dsimp only at hSw); go_simp; (try with_reducible rfl)
      simp only [Act.put, List.setIfInBounds_toArray, List.set_cons_zero, List.set_cons_succ]
      refine wpAnyH_take (i := 37) (oi := (⟨some 83, Op.move (Operand.tmp 82), 4, "law.go:80", #[⟨36, Ground.data⟩, ⟨34, Ground.chain⟩], none⟩ : Oper)) (v := ?_) rfl (by kernel_rfl) (by kernel_rfl) (by kernel_rfl) (fun _ _ _ h => h) (Or.inl ⟨by rfl, ?_⟩) (by assumption) ?_
      rotate_left
      · intro w hSw; (try dsimp only at hSw); go_simp; (try with_reducible rfl)
      simp only [Act.put, List.setIfInBounds_toArray, List.set_cons_zero, List.set_cons_succ]
      refine wpAnyH_take (i := 38) (oi := (⟨some 84, Op.move (Operand.tmp 13), 44, "law.go:80", #[⟨37, Ground.guard⟩], some (37, false)⟩ : Oper)) (v := ?_) rfl (by kernel_rfl) (by kernel_rfl) (by kernel_rfl) (fun _ _ _ h => h) (Or.inl ⟨by rfl, ?_⟩) (by assumption) ?_
      rotate_left
      · intro w hSw; (try dsimp only at hSw); go_simp; (try with_reducible rfl)
      simp only [Act.put, List.setIfInBounds_toArray, List.set_cons_zero, List.set_cons_succ]
      refine wpAnyH_take (i := 39) (oi := (⟨some 85, Op.binOp BinOp.eql 44 (Operand.tmp 84) (Operand.const (Value.int IntKind.i64 0)) 44, 4, "law.go:80", #[⟨38, Ground.data⟩, ⟨37, Ground.guard⟩], some (37, false)⟩ : Oper)) (v := ?_) rfl (by kernel_rfl) (by kernel_rfl) (by kernel_rfl) (fun _ _ _ h => h) (Or.inl ⟨by rfl, ?_⟩) (by assumption) ?_
      rotate_left
      · intro w hSw; (try dsimp only at hSw); go_simp; (try with_reducible rfl)
      simp only [Act.put, List.setIfInBounds_toArray, List.set_cons_zero, List.set_cons_succ]
      refine wpAnyH_take (i := 40) (oi := (⟨some 86, Op.move (Operand.tmp 11), 9, "law.go:80", #[⟨37, Ground.guard⟩], some (37, false)⟩ : Oper)) (v := ?_) rfl (by kernel_rfl) (by kernel_rfl) (by kernel_rfl) (fun _ _ _ h => h) (Or.inl ⟨by rfl, ?_⟩) (by assumption) ?_
      rotate_left
      · intro w hSw; (try dsimp only at hSw); go_simp; (try with_reducible rfl)
      simp only [Act.put, List.setIfInBounds_toArray, List.set_cons_zero, List.set_cons_succ]
      refine wpAnyH_take (i := 41) (oi := (⟨some 87, Op.binOp BinOp.neq 9 (Operand.tmp 86) (Operand.const (Value.string { data := #[] })) 9, 4, "law.go:80", #[⟨40, Ground.data⟩, ⟨37, Ground.guard⟩], some (37, false)⟩ : Oper)) (v := ?_) rfl (by kernel_rfl) (by kernel_rfl) (by kernel_rfl) (fun _ _ _ h => h) (Or.inl ⟨by rfl, ?_⟩) (by assumption) ?_
      rotate_left
      · intro w hSw; (try dsimp only at hSw); go_simp; (try with_reducible rfl)
      simp only [Act.put, List.setIfInBounds_toArray, List.set_cons_zero, List.set_cons_succ]
      refine wpAnyH_take (i := 42) (oi := (⟨some 88, Op.binOp BinOp.neq 4 (Operand.tmp 85) (Operand.tmp 87) 4, 4, "law.go:80", #[⟨39, Ground.data⟩, ⟨41, Ground.data⟩, ⟨37, Ground.guard⟩], some (37, false)⟩ : Oper)) (v := ?_) rfl (by kernel_rfl) (by kernel_rfl) (by kernel_rfl) (fun _ _ _ h => h) (Or.inl ⟨by rfl, ?_⟩) (by assumption) ?_
      rotate_left
      · intro w hSw; (try dsimp only at hSw); go_simp; (try with_reducible rfl)
      simp only [Act.put, List.setIfInBounds_toArray, List.set_cons_zero, List.set_cons_succ]
      refine wpAnyH_take (i := 43) (oi := (⟨some 89, Op.pick (Operand.tmp 83) (Operand.const (Value.bool true)) (Operand.tmp 88), 4, "law.go:80", #[⟨37, Ground.data⟩, ⟨42, Ground.data⟩], none⟩ : Oper)) (v := ?_) rfl (by kernel_rfl) (by kernel_rfl) (by kernel_rfl) (fun _ _ _ h => h) (Or.inl ⟨by rfl, ?_⟩) (by assumption) ?_
      rotate_left
      · intro w hSw; (try dsimp only at hSw); go_simp; (try with_reducible rfl)
      simp only [Act.put, List.setIfInBounds_toArray, List.set_cons_zero, List.set_cons_succ]
      refine wpAnyH_take (i := 44) (oi := (⟨some 90, Op.move (Operand.tmp 89), 4, "law.go:80", #[⟨43, Ground.data⟩, ⟨37, Ground.chain⟩], none⟩ : Oper)) (v := ?_) rfl (by kernel_rfl) (by kernel_rfl) (by kernel_rfl) (fun _ _ _ h => h) (Or.inl ⟨by rfl, ?_⟩) (by assumption) ?_
      rotate_left
      · intro w hSw; (try dsimp only at hSw); go_simp; (try with_reducible rfl)
      simp only [Act.put, List.setIfInBounds_toArray, List.set_cons_zero, List.set_cons_succ]
      refine wpAnyH_take (i := 45) (oi := (⟨some 91, Op.move (Operand.tmp 11), 9, "law.go:80", #[⟨44, Ground.guard⟩], some (44, false)⟩ : Oper)) (v := ?_) rfl (by kernel_rfl) (by kernel_rfl) (by kernel_rfl) (fun _ _ _ h => h) (Or.inl ⟨by rfl, ?_⟩) (by assumption) ?_
      rotate_left
      · intro w hSw; (try dsimp only at hSw); go_simp; (try with_reducible rfl)
      simp only [Act.put, List.setIfInBounds_toArray, List.set_cons_zero, List.set_cons_succ]
      refine wpAnyH_take (i := 46) (oi := (⟨some 92, Op.binOp BinOp.neq 9 (Operand.tmp 91) (Operand.const (Value.string { data := #[] })) 9, 4, "law.go:80", #[⟨45, Ground.data⟩, ⟨44, Ground.guard⟩], some (44, false)⟩ : Oper)) (v := ?_) rfl (by kernel_rfl) (by kernel_rfl) (by kernel_rfl) (fun _ _ _ h => h) (Or.inl ⟨by rfl, ?_⟩) (by assumption) ?_
      rotate_left
      · intro w hSw; (try dsimp only at hSw); go_simp; (try with_reducible rfl)
      simp only [Act.put, List.setIfInBounds_toArray, List.set_cons_zero, List.set_cons_succ]
      refine wpAnyH_take (i := 47) (oi := (⟨some 93, Op.move (Operand.tmp 92), 4, "law.go:80", #[⟨46, Ground.data⟩, ⟨44, Ground.chain⟩, ⟨44, Ground.guard⟩], some (44, false)⟩ : Oper)) (v := ?_) rfl (by kernel_rfl) (by kernel_rfl) (by kernel_rfl) (fun _ _ _ h => h) (Or.inl ⟨by rfl, ?_⟩) (by assumption) ?_
      rotate_left
      · intro w hSw; (try dsimp only at hSw); go_simp; (try with_reducible rfl)
      simp only [Act.put, List.setIfInBounds_toArray, List.set_cons_zero, List.set_cons_succ]
      refine wpAnyH_take (i := 48) (oi := (⟨some 94, Op.load 38 (Operand.tmp 12), 38, "law.go:80", #[⟨47, Ground.guard⟩], some (47, true)⟩ : Oper)) (v := undef) rfl (by kernel_rfl) (by kernel_rfl) (by kernel_rfl) (fun _ _ _ h => h) (Or.inr ⟨by rfl, rfl⟩) (by assumption) ?_
      simp only [Act.put, List.setIfInBounds_toArray, List.set_cons_zero, List.set_cons_succ]
      refine wpAnyH_take (i := 49) (oi := (⟨some 95, Op.load 40 (Operand.tmp 3), 40, "law.go:80", #[⟨47, Ground.guard⟩], some (47, true)⟩ : Oper)) (v := undef) rfl (by kernel_rfl) (by kernel_rfl) (by kernel_rfl) (fun _ _ _ h => h) (Or.inr ⟨by rfl, rfl⟩) (by assumption) ?_
      simp only [Act.put, List.setIfInBounds_toArray, List.set_cons_zero, List.set_cons_succ]
      refine wpAnyH_take (i := 50) (oi := (⟨some 96, Op.call ⟨Callee.value (Operand.func 8), #[Operand.tmp 95], #[40]⟩, 38, "law.go:80", #[⟨49, Ground.data⟩, ⟨47, Ground.chain⟩, ⟨47, Ground.guard⟩], some (47, true)⟩ : Oper)) (v := undef) rfl (by kernel_rfl) (by kernel_rfl) (by kernel_rfl) (fun _ _ _ h => h) (Or.inr ⟨by rfl, rfl⟩) (by assumption) ?_
      simp only [Act.put, List.setIfInBounds_toArray, List.set_cons_zero, List.set_cons_succ]
      refine wpAnyH_take (i := 51) (oi := (⟨some 97, Op.binOp BinOp.neq 38 (Operand.tmp 94) (Operand.tmp 96) 38, 4, "law.go:80", #[⟨48, Ground.data⟩, ⟨50, Ground.data⟩, ⟨47, Ground.guard⟩], some (47, true)⟩ : Oper)) (v := undef) rfl (by kernel_rfl) (by kernel_rfl) (by kernel_rfl) (fun _ _ _ h => h) (Or.inr ⟨by rfl, rfl⟩) (by assumption) ?_
      simp only [Act.put, List.setIfInBounds_toArray, List.set_cons_zero, List.set_cons_succ]
      refine wpAnyH_take (i := 52) (oi := (⟨some 98, Op.pick (Operand.tmp 93) (Operand.tmp 97) (Operand.const (Value.bool false)), 4, "law.go:80", #[⟨47, Ground.data⟩, ⟨51, Ground.data⟩, ⟨44, Ground.guard⟩], some (44, false)⟩ : Oper)) (v := ?_) rfl (by kernel_rfl) (by kernel_rfl) (by kernel_rfl) (fun _ _ _ h => h) (Or.inl ⟨by rfl, ?_⟩) (by assumption) ?_
      rotate_left
      · intro w hSw; (try dsimp only at hSw); go_simp; (try with_reducible rfl)
      simp only [Act.put, List.setIfInBounds_toArray, List.set_cons_zero, List.set_cons_succ]
      refine wpAnyH_take (i := 53) (oi := (⟨some 99, Op.pick (Operand.tmp 90) (Operand.const (Value.bool true)) (Operand.tmp 98), 4, "law.go:80", #[⟨44, Ground.data⟩, ⟨52, Ground.data⟩], none⟩ : Oper)) (v := ?_) rfl (by kernel_rfl) (by kernel_rfl) (by kernel_rfl) (fun _ _ _ h => h) (Or.inl ⟨by rfl, ?_⟩) (by assumption) ?_
      rotate_left
      · intro w hSw; (try dsimp only at hSw); go_simp; (try with_reducible rfl)
      simp only [Act.put, List.setIfInBounds_toArray, List.set_cons_zero, List.set_cons_succ]
      refine wpAnyH_done (by kernel_rfl) ?_ _
      clear KS HRL2
      go_wp2_with fail
      go_region_held3 (fun w' => w'.cell? ⟨w.heap.size, 0, none⟩ = some (.int .i64 k) ∧ w'.cell? ⟨w.heap.size, 1, none⟩ = some (.int .u32 (id : Nat)) ∧ w'.cell? ⟨w.heap.size, 2, none⟩ = some (.int .u64 (v : Nat)) ∧ w'.cell? ⟨w.heap.size + 1, 0, none⟩ = some (.int .i64 (er : Nat)) ∧ w'.cell? ⟨w.heap.size + 1, 1, none⟩ = some (.int .u32 (aid : Nat)) ∧ w'.cell? ⟨w.heap.size + 1, 2, none⟩ = some (.int .u64 (av : Nat)))
        (exact KS2.out _ (by repeat (first | exact Fr.refl NoF _ | exact Hf.out | exact He.out | exact Hb.out | exact Hd.out | exact Hc.out | exact Ha.out | apply Fr.drew | apply Fr.drewN | apply Fr.alloc)))
        (first
          | (go_at_call 8; (with_reducible refine (HTO2.out _ _ _ _ (by repeat (first | exact Fr.refl NoF _ | exact Hf.out | exact He.out | exact Hb.out | exact Hd.out | exact Hc.out | exact Ha.out | apply Fr.drew | apply Fr.drewN | apply Fr.alloc))).mono ?_); rintro e wb ⟨rfl, hb⟩; have Hb := Lib.hid hb; clear hb)
          | (go_at_call 13; (with_reducible refine (HTL2.out _ (by repeat (first | exact Fr.refl NoF _ | exact Hf.out | exact He.out | exact Hb.out | exact Hd.out | exact Hc.out | exact Ha.out | apply Fr.drew | apply Fr.drewN | apply Fr.alloc))).mono ?_); rintro e we ⟨rfl, he⟩; have He := Lib.hid he; clear he)
          | (go_at_call 14; (with_reducible refine (HRT2.out _ (by repeat (first | exact Fr.refl NoF _ | exact Hf.out | exact He.out | exact Hb.out | exact Hd.out | exact Hc.out | exact Ha.out | apply Fr.drew | apply Fr.drewN | apply Fr.alloc))).mono ?_); rintro e wf ⟨rfl, hf⟩; have Hf := Lib.hid hf; clear hf))
      all_goals
        go_wp2
        go_returns
        exact ⟨rfl, Fr.trans (G := NoF) H5.out (by repeat (first | exact Fr.refl NoF _ | exact Hf.out | exact He.out | exact Hb.out | exact Hd.out | exact Hc.out | exact Ha.out | apply Fr.drew | apply Fr.drewN | apply Fr.alloc)) (fun _ q => q.elim)⟩
end Go.Proofs.YtkkobohofopgmaaDoor

/-
  told of a Disk; what is said of one that isn't there.
-/
import Derived.Test.YtnideelidfpicaaGreatDoorK25
namespace Go.Proofs.YtnideelidfpicaaGreatDoor
open Go.RowKit Go.Maps
set_option linter.unusedVariables false

/-- A Disk made since w, with so many freed ids. -/
def DN (w w' : World) (db : Nat) (s : DS) (nf : Nat) : Prop := ∃ c pv fv mb fh, DC w' db s c pv fv mb fh nf ∧ (∀ i, FD db pv fv mb i → w.heap.size ≤ i) ∧ Fr NoF w w'
section
variable {w w1 : World} {db nf : Nat} {s : DS}
theorem dn_new (room : Nat) (w : World) (h1 : 1 ≤ room) (h2 : room ≤ 65535) : Calls Tryz.prog 4 #[.int .i64 room] w fun e w' => ∃ db, e = .returned (.tuple #[.pointer (some ⟨db, 0, none⟩), .int .i64 0]) ∧ DN w w' db (dk0 room) 0 := by
  refine (dk_new_yes room w h1 h2).mono ?_
  rintro e w' ⟨db, pv, fv, mb, rfl, h, hF, f⟩
  exact ⟨db, rfl, 0, pv, fv, mb, _, h, hF, f⟩
theorem dn_full (h : DN w w1 db s 0) (hr : ¬ s.np < s.room) : Calls Tryz.prog 51 #[.pointer (some ⟨db, 0, none⟩)] w1 fun e w' => e = .returned (.tuple #[.int .u32 0, .int .i64 2]) ∧ DN w w' db s 0 := by
  obtain ⟨c, pv, fv, mb, fh, h, hF, f⟩ := h
  refine (dk_alloc_full h hr).mono ?_
  rintro e w' ⟨rfl, d, rfl⟩
  exact ⟨rfl, c, pv, fv, mb, fh, h.fr0 ((Fr.refl NoF _).drewN d), hF, f.drewN d⟩
theorem dn_grow (h : DN w w1 db s 0) (hr : s.np < s.room) : Calls Tryz.prog 51 #[.pointer (some ⟨db, 0, none⟩)] w1 fun e w' => e = .returned (.tuple #[.int .u32 (s.np + 1 : Nat), .int .i64 0]) ∧ DN w w' db s.grow 0 := by
  obtain ⟨c, pv, fv, mb, fh, h, hF, f⟩ := h
  refine (dk_alloc_new h hr).mono ?_
  rintro e w' ⟨rfl, ⟨pv', h', ho⟩, f'⟩
  refine ⟨rfl, c, pv', fv, mb, fh, h', fun i q => ?_, f.trans f' (fun i q => .inr (hF i (by rcases q with q | q; exact .inl q; exact .inr (.inr (.inl q)))))⟩
  rcases q with q | q | q | q
  · exact hF i (.inl q)
  · exact hF i (.inr (.inl q))
  · rcases ho i q with q | q
    · exact hF i (.inr (.inr (.inl q)))
    · exact Nat.le_trans f.size q
  · exact hF i (.inr (.inr (.inr q)))
theorem dn_write (h : DN w w1 db s nf) {id : Nat} (hu : isU32 id) (v : Nat) (hwr : s.wr + 1 < 1000000000) : Calls Tryz.prog 93 #[.pointer (some ⟨db, 0, none⟩), .int .u32 id, .int .u64 v] w1 fun e w' => e = .returned (.int .i64 (s.write id v).1) ∧ DN w w' db (s.write id v).2 nf := by
  obtain ⟨c, pv, fv, mb, fh, h, hF, f⟩ := h
  refine (dk_write h hu v hwr).mono ?_
  rintro e w' ⟨rfl, ⟨c', _, h'⟩, f'⟩
  exact ⟨rfl, c', pv, fv, mb, fh, h', hF, f.trans f' (fun i q => .inr (hF i (by rcases q with q | q | q; exact .inl q; exact .inr (.inl q); exact .inr (.inr (.inl q)))))⟩
theorem dn_read (h : DN w w1 db s nf) {id : Nat} (hu : isU32 id) (hrd : s.rd + 1 < 1000000000) : Calls Tryz.prog 46 #[.pointer (some ⟨db, 0, none⟩), .int .u32 id] w1 fun e w' => e = .returned (.tuple #[.int .u64 (s.read id).1.1, .int .i64 (s.read id).1.2]) ∧ DN w w' db (s.read id).2 nf := by
  obtain ⟨c, pv, fv, mb, fh, h, hF, f⟩ := h
  refine (dk_read h hu hrd).mono ?_
  rintro e w' ⟨rfl, ⟨c', _, h'⟩, f'⟩
  exact ⟨rfl, c', pv, fv, mb, fh, h', hF, f.trans f' (fun i q => .inr (hF i (by rcases q with q | q; exact .inl q; exact .inr (.inl q))))⟩
theorem dn_free (h : DN w w1 db s nf) {id : Nat} (hu : isU32 id) (hh : s.has id = true) : Calls Tryz.prog 53 #[.pointer (some ⟨db, 0, none⟩), .int .u32 id] w1 fun e w' => e = .returned (.int .i64 0) ∧ DN w w' db (s.gone id) (nf + 1) := by
  obtain ⟨c, pv, fv, mb, fh, h, hF, f⟩ := h
  refine (dk_free_yes h hu hh).mono ?_
  rintro e w' ⟨rfl, ⟨fv', h', ho⟩, f'⟩
  refine ⟨rfl, c, pv, fv', mb, _, h', fun i q => ?_, f.trans f' (fun i q => .inr (hF i q))⟩
  rcases q with q | q | q | q
  · exact hF i (.inl q)
  · exact hF i (.inr (.inl q))
  · exact hF i (.inr (.inr (.inl q)))
  · rcases ho i q with q | q
    · exact hF i (.inr (.inr (.inr q)))
    · exact Nat.le_trans f.size q
theorem dn_reads (h : DN w w1 db s nf) : Calls Tryz.prog 43 #[.pointer (some ⟨db, 0, none⟩)] w1 fun e w' => e = .returned (.int .i64 s.rd) ∧ w1 = w' := by
  obtain ⟨c, pv, fv, mb, fh, h, hF, f⟩ := h
  exact dk_reads h
end
def tk2 : DS := (dk0 2).grow.grow
def tk3 : DS := (tk2.write 2 9).2
def tk4 : DS := (tk3.read 2).2
/-! ### Of none nothing is told -/
theorem nil_has (id : Nat) (w : World) : Calls Tryz.prog 81 #[.pointer none, .int .u32 id] w fun e w' => e = .returned (.bool false) ∧ w = w' := by
  go_enter Tryz.func81, Tryz.ntmps81
  go_wp2
  go_returns
  exact ⟨rfl, rfl⟩
theorem nil_attempt (id : Nat) (b : Bool) (w : World) : Calls Tryz.prog 72 #[.pointer none, .agg #[.int .u32 id, .bool b]] w fun e w' => e = .returned (.int .i64 3) ∧ Fr NoF w w' := by
  go_enter Tryz.func72, Tryz.ntmps72
  go_wp2_with fail
  refine (nil_has id _).mono ?_
  rintro e w' ⟨rfl, rfl⟩
  go_wp2
  go_returns
  exact ⟨rfl, (Fr.refl _ _).alloc _⟩
theorem nil_alloc (w : World) : Calls Tryz.prog 51 #[.pointer none] w fun e w' => e = .returned (.tuple #[.int .u32 0, .int .i64 2]) ∧ w = w' := by
  go_enter Tryz.func51, Tryz.ntmps51
  go_wp2
  go_returns
  exact ⟨rfl, rfl⟩
theorem nil_free (id : Nat) (w : World) : Calls Tryz.prog 53 #[.pointer none, .int .u32 id] w fun e w' => e = .returned (.int .i64 3) ∧ w = w' := by
  go_enter Tryz.func53, Tryz.ntmps53
  go_wp2_with fail
  refine (nil_has id _).mono ?_
  rintro e w' ⟨rfl, rfl⟩
  go_wp2
  go_returns
  exact ⟨rfl, rfl⟩
theorem nil_read (id : Nat) (w : World) : Calls Tryz.prog 46 #[.pointer none, .int .u32 id] w fun e w' => e = .returned (.tuple #[.int .u64 0, .int .i64 3]) ∧ Fr NoF w w' := by
  go_enter Tryz.func46, Tryz.ntmps46
  go_wp2_with fail
  refine (nil_attempt id false w).mono ?_
  rintro e w' ⟨rfl, h⟩
  have H := Lib.hid h
  clear h
  go_wp2
  go_returns
  exact ⟨rfl, H.out⟩
theorem nil_write (id v : Nat) (w : World) : Calls Tryz.prog 93 #[.pointer none, .int .u32 id, .int .u64 v] w fun e w' => e = .returned (.int .i64 3) ∧ Fr NoF w w' := by
  go_enter Tryz.func93, Tryz.ntmps93
  go_wp2_with fail
  refine (nil_attempt id true w).mono ?_
  rintro e w' ⟨rfl, h⟩
  have H := Lib.hid h
  clear h
  go_wp2
  go_returns
  exact ⟨rfl, H.out⟩
theorem nil_fail (id : Nat) (b : Bool) (t : Int) (w : World) : Calls Tryz.prog 39 #[.pointer none, .int .u32 id, .bool b, .int .i64 t] w fun e w' => e = .returned (.tuple #[]) ∧ w = w' := by
  go_enter Tryz.func39, Tryz.ntmps39
  go_wp2
  go_returns
  exact ⟨rfl, rfl⟩
theorem nil_stop (t : Int) (w : World) : Calls Tryz.prog 41 #[.pointer none, .int .i64 t] w fun e w' => e = .returned (.tuple #[]) ∧ w = w' := by
  go_enter Tryz.func41, Tryz.ntmps41
  go_wp2
  go_returns
  exact ⟨rfl, rfl⟩
theorem nil_reads (w : World) : Calls Tryz.prog 43 #[.pointer none] w fun e w' => e = .returned (.int .i64 0) ∧ w = w' := by
  go_enter Tryz.func43, Tryz.ntmps43
  go_wp2
  go_returns
  exact ⟨rfl, rfl⟩
theorem nil_writes (w : World) : Calls Tryz.prog 44 #[.pointer none] w fun e w' => e = .returned (.int .i64 0) ∧ w = w' := by
  go_enter Tryz.func44, Tryz.ntmps44
  go_wp2
  go_returns
  exact ⟨rfl, rfl⟩
theorem nil_pages (w : World) : Calls Tryz.prog 24 #[.pointer none] w fun e w' => e = .returned (.slice none 0 0) ∧ w = w' := by
  go_enter Tryz.func24, Tryz.ntmps24
  go_wp2
  go_returns
  exact ⟨rfl, rfl⟩
theorem nil_copy (w : World) : Calls Tryz.prog 45 #[.pointer none] w fun e w' => e = .returned (.pointer none) ∧ w = w' := by
  go_enter Tryz.func45, Tryz.ntmps45
  go_wp2
  go_returns
  exact ⟨rfl, rfl⟩
end Go.Proofs.YtnideelidfpicaaGreatDoor

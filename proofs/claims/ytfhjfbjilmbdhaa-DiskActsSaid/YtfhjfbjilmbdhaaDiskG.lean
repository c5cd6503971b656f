/-
  told of a Disk; what is said of one that isn't there.
-/
import Derived.Test.YtfhjfbjilmbdhaaDiskF
namespace Go.Proofs.Ytfhjfbjilmbdhaa
open Go.RowKit Go.Maps
set_option linter.unusedVariables false

/-- A Disk made since w, with so many freed ids. -/
def DN (w w' : World) (db : Nat) (s : DS) (nf : Nat) : Prop := ∃ c pv fv mb fh, DC w' db s c pv fv mb fh nf ∧ (∀ i, FD db pv fv mb i → w.heap.size ≤ i) ∧ Fr NoF w w'
section
variable {w w1 : World} {db nf : Nat} {s : DS}
theorem dn_new (room : Nat) (w : World) (h1 : 1 ≤ room) (h2 : room ≤ 65535) : Calls Try.prog 5 #[.int .i64 room] w fun e w' => ∃ db, e = .returned (.tuple #[.pointer (some ⟨db, 0, none⟩), .int .i64 0]) ∧ DN w w' db (dk0 room) 0 := by
  refine (dk_new_yes room w h1 h2).mono ?_
  rintro e w' ⟨db, pv, fv, mb, rfl, h, hF, f⟩
  exact ⟨db, rfl, 0, pv, fv, mb, _, h, hF, f⟩
theorem dn_full (h : DN w w1 db s 0) (hr : ¬ s.np < s.room) : Calls Try.prog 7 #[.pointer (some ⟨db, 0, none⟩)] w1 fun e w' => e = .returned (.tuple #[.int .u32 0, .int .i64 2]) ∧ DN w w' db s 0 := by
  obtain ⟨c, pv, fv, mb, fh, h, hF, f⟩ := h
  refine (dk_alloc_full h hr).mono ?_
  rintro e w' ⟨rfl, d, rfl⟩
  exact ⟨rfl, c, pv, fv, mb, fh, h.fr0 ((Fr.refl NoF _).drewN d), hF, f.drewN d⟩
theorem dn_grow (h : DN w w1 db s 0) (hr : s.np < s.room) : Calls Try.prog 7 #[.pointer (some ⟨db, 0, none⟩)] w1 fun e w' => e = .returned (.tuple #[.int .u32 (s.np + 1 : Nat), .int .i64 0]) ∧ DN w w' db s.grow 0 := by
  obtain ⟨c, pv, fv, mb, fh, h, hF, f⟩ := h
  refine (dk_alloc_new h hr).mono ?_
  rintro e w' ⟨rfl, ⟨pv', h', ho⟩, f'⟩
  refine ⟨rfl, c, pv', fv, mb, fh, h', fun i q => ?_, f.trans f' (fun i q => .inr (hF i (by rcases q with q | q; exact .inl q; exact .inr (.inr (.inl q)))))⟩
  rcases q with q | q | q | q
  · exact hF i (.inl q)
  · exact hF i (.inr (.inl q))
  · rcases ho i q with q | q
    · exact hF i (.inr (.inr (.inl q)))
    · exact Nat.le_trans f.size q
  · exact hF i (.inr (.inr (.inr q)))
theorem dn_write (h : DN w w1 db s nf) {id : Nat} (hu : isU32 id) (v : Nat) (hwr : s.wr + 1 < 1000000000) : Calls Try.prog 13 #[.pointer (some ⟨db, 0, none⟩), .int .u32 id, .int .u64 v] w1 fun e w' => e = .returned (.int .i64 (s.write id v).1) ∧ DN w w' db (s.write id v).2 nf := by
  obtain ⟨c, pv, fv, mb, fh, h, hF, f⟩ := h
  refine (dk_write h hu v hwr).mono ?_
  rintro e w' ⟨rfl, ⟨c', _, h'⟩, f'⟩
  exact ⟨rfl, c', pv, fv, mb, fh, h', hF, f.trans f' (fun i q => .inr (hF i (by rcases q with q | q | q; exact .inl q; exact .inr (.inl q); exact .inr (.inr (.inl q)))))⟩
theorem dn_read (h : DN w w1 db s nf) {id : Nat} (hu : isU32 id) (hrd : s.rd + 1 < 1000000000) : Calls Try.prog 11 #[.pointer (some ⟨db, 0, none⟩), .int .u32 id] w1 fun e w' => e = .returned (.tuple #[.int .u64 (s.read id).1.1, .int .i64 (s.read id).1.2]) ∧ DN w w' db (s.read id).2 nf := by
  obtain ⟨c, pv, fv, mb, fh, h, hF, f⟩ := h
  refine (dk_read h hu hrd).mono ?_
  rintro e w' ⟨rfl, ⟨c', _, h'⟩, f'⟩
  exact ⟨rfl, c', pv, fv, mb, fh, h', hF, f.trans f' (fun i q => .inr (hF i (by rcases q with q | q; exact .inl q; exact .inr (.inl q))))⟩
theorem dn_free (h : DN w w1 db s nf) {id : Nat} (hu : isU32 id) (hh : s.has id = true) : Calls Try.prog 9 #[.pointer (some ⟨db, 0, none⟩), .int .u32 id] w1 fun e w' => e = .returned (.int .i64 0) ∧ DN w w' db (s.gone id) (nf + 1) := by
  obtain ⟨c, pv, fv, mb, fh, h, hF, f⟩ := h
  refine (dk_free_yes h hu hh).mono ?_
  rintro e w' ⟨rfl, ⟨fv', h', ho⟩, f'⟩
  refine ⟨rfl, c, pv, fv', mb, _, h', fun i q => ?_, f.trans f' (fun i q => .inr (hF i q))⟩
  rcases q with q | q | q | q
  · exact hF i (.inl q)
  · exact hF i (.inr (.inl q))
  · exact hF i (.inr (.inr (.inl q)))
  · rcases ho i q with q | q
    · exact hF i (.inr (.inr (.inr q)))
    · exact Nat.le_trans f.size q
theorem dn_reads (h : DN w w1 db s nf) : Calls Try.prog 22 #[.pointer (some ⟨db, 0, none⟩)] w1 fun e w' => e = .returned (.int .i64 s.rd) ∧ w1 = w' := by
  obtain ⟨c, pv, fv, mb, fh, h, hF, f⟩ := h
  exact dk_reads h
end
def tk2 : DS := (dk0 2).grow.grow
def tk3 : DS := (tk2.write 2 9).2
def tk4 : DS := (tk3.read 2).2
set_option maxHeartbeats 1000000 in
theorem toldD_calls (w : World) : Calls Try.prog 6 #[] w fun e w' => e = .returned (.bool true) ∧ Fr NoF w w' := by
  have N := Lib.hid (dn_new 2 w (by omega) (by omega))
  have A1 : Hid (∀ w1 db, DN w w1 db (dk0 2) 0 → Calls Try.prog 7 #[.pointer (some ⟨db, 0, none⟩)] w1 fun e w' => e = .returned (.tuple #[.int .u32 1, .int .i64 0]) ∧ DN w w' db (dk0 2).grow 0) := fun w1 db h => dn_grow h (by show 0 < 2; omega)
  have A2 : Hid (∀ w1 db, DN w w1 db (dk0 2).grow 0 → Calls Try.prog 7 #[.pointer (some ⟨db, 0, none⟩)] w1 fun e w' => e = .returned (.tuple #[.int .u32 2, .int .i64 0]) ∧ DN w w' db tk2 0) := fun w1 db h => dn_grow h (by show 1 < 2; omega)
  have A3 : Hid (∀ w1 db, DN w w1 db tk2 0 → Calls Try.prog 7 #[.pointer (some ⟨db, 0, none⟩)] w1 fun e w' => e = .returned (.tuple #[.int .u32 0, .int .i64 2]) ∧ DN w w' db tk2 0) := fun w1 db h => dn_full h (by show ¬ 2 < 2; omega)
  have A4 : Hid (∀ w1 db, DN w w1 db tk2 0 → Calls Try.prog 13 #[.pointer (some ⟨db, 0, none⟩), .int .u32 2, .int .u64 9] w1 fun e w' => e = .returned (.int .i64 0) ∧ DN w w' db tk3 0) := fun w1 db h => dn_write h (id := 2) (by unfold isU32; omega) 9 (by show 0 + 1 < 1000000000; omega)
  have A5 : Hid (∀ w1 db, DN w w1 db tk3 0 → Calls Try.prog 11 #[.pointer (some ⟨db, 0, none⟩), .int .u32 2] w1 fun e w' => e = .returned (.tuple #[.int .u64 9, .int .i64 0]) ∧ DN w w' db tk4 0) := fun w1 db h => dn_read h (id := 2) (by unfold isU32; omega) (by show 0 + 1 < 1000000000; omega)
  have A6 : Hid (∀ w1 db, DN w w1 db tk4 0 → Calls Try.prog 9 #[.pointer (some ⟨db, 0, none⟩), .int .u32 1] w1 fun e w' => e = .returned (.int .i64 0) ∧ DN w w' db (tk4.gone 1) 1) := fun w1 db h => dn_free h (id := 1) (by unfold isU32; omega) (by rfl)
  have A7 : Hid (∀ w1 db, DN w w1 db (tk4.gone 1) 1 → Calls Try.prog 22 #[.pointer (some ⟨db, 0, none⟩)] w1 fun e w' => e = .returned (.int .i64 1) ∧ w1 = w') := fun w1 db h => dn_reads h
  go_enter Try.func6, Try.ntmps6
  go_wp2_with fail
  refine N.out.mono ?_
  clear N
  rintro e w1 ⟨db, rfl, h1⟩
  have H1 := Lib.hid h1
  clear h1
  go_wp2_with fail
  refine (A1.out _ _ H1.out).mono ?_
  clear A1
  rintro e w2 ⟨rfl, h2⟩
  have H2 := Lib.hid h2
  clear h2 H1
  go_wp2_with fail
  refine (A2.out _ _ H2.out).mono ?_
  clear A2
  rintro e w3 ⟨rfl, h3⟩
  have H3 := Lib.hid h3
  clear h3 H2
  go_wp2_with fail
  refine (A3.out _ _ H3.out).mono ?_
  clear A3
  rintro e w4 ⟨rfl, h4⟩
  have H4 := Lib.hid h4
  clear h4 H3
  go_wp2_with fail
  refine (A4.out _ _ H4.out).mono ?_
  clear A4
  rintro e w5 ⟨rfl, h5⟩
  have H5 := Lib.hid h5
  clear h5 H4
  go_wp2_with fail
  refine (A5.out _ _ H5.out).mono ?_
  clear A5
  rintro e w6 ⟨rfl, h6⟩
  have H6 := Lib.hid h6
  clear h6 H5
  go_wp2_with fail
  refine (A6.out _ _ H6.out).mono ?_
  clear A6
  rintro e w7 ⟨rfl, h7⟩
  have H7 := Lib.hid h7
  clear h7 H6
  go_wp2_with fail
  refine (A7.out _ _ H7.out).mono ?_
  clear A7
  rintro e w8 ⟨rfl, rfl⟩
  go_wp2
  go_returns
  obtain ⟨_, _, _, _, _, _, _, f⟩ := H7.out
  exact ⟨rfl, f⟩

/-! ### Of none nothing is told -/
theorem nil_has (id : Nat) (w : World) : Calls Try.prog 26 #[.pointer none, .int .u32 id] w fun e w' => e = .returned (.bool false) ∧ w = w' := by
  go_enter Try.func26, Try.ntmps26
  go_wp2
  go_returns
  exact ⟨rfl, rfl⟩
theorem nil_attempt (id : Nat) (b : Bool) (w : World) : Calls Try.prog 29 #[.pointer none, .agg #[.int .u32 id, .bool b]] w fun e w' => e = .returned (.int .i64 3) ∧ Fr NoF w w' := by
  go_enter Try.func29, Try.ntmps29
  go_wp2_with fail
  refine (nil_has id _).mono ?_
  rintro e w' ⟨rfl, rfl⟩
  go_wp2
  go_returns
  exact ⟨rfl, (Fr.refl _ _).alloc _⟩
theorem nil_alloc (w : World) : Calls Try.prog 7 #[.pointer none] w fun e w' => e = .returned (.tuple #[.int .u32 0, .int .i64 2]) ∧ w = w' := by
  go_enter Try.func7, Try.ntmps7
  go_wp2
  go_returns
  exact ⟨rfl, rfl⟩
theorem nil_free (id : Nat) (w : World) : Calls Try.prog 9 #[.pointer none, .int .u32 id] w fun e w' => e = .returned (.int .i64 3) ∧ w = w' := by
  go_enter Try.func9, Try.ntmps9
  go_wp2_with fail
  refine (nil_has id _).mono ?_
  rintro e w' ⟨rfl, rfl⟩
  go_wp2
  go_returns
  exact ⟨rfl, rfl⟩
theorem nil_read (id : Nat) (w : World) : Calls Try.prog 11 #[.pointer none, .int .u32 id] w fun e w' => e = .returned (.tuple #[.int .u64 0, .int .i64 3]) ∧ Fr NoF w w' := by
  go_enter Try.func11, Try.ntmps11
  go_wp2_with fail
  refine (nil_attempt id false w).mono ?_
  rintro e w' ⟨rfl, h⟩
  have H := Lib.hid h
  clear h
  go_wp2
  go_returns
  exact ⟨rfl, H.out⟩
theorem nil_write (id v : Nat) (w : World) : Calls Try.prog 13 #[.pointer none, .int .u32 id, .int .u64 v] w fun e w' => e = .returned (.int .i64 3) ∧ Fr NoF w w' := by
  go_enter Try.func13, Try.ntmps13
  go_wp2_with fail
  refine (nil_attempt id true w).mono ?_
  rintro e w' ⟨rfl, h⟩
  have H := Lib.hid h
  clear h
  go_wp2
  go_returns
  exact ⟨rfl, H.out⟩
theorem nil_fail (id : Nat) (b : Bool) (t : Int) (w : World) : Calls Try.prog 15 #[.pointer none, .int .u32 id, .bool b, .int .i64 t] w fun e w' => e = .returned (.tuple #[]) ∧ w = w' := by
  go_enter Try.func15, Try.ntmps15
  go_wp2
  go_returns
  exact ⟨rfl, rfl⟩
theorem nil_stop (t : Int) (w : World) : Calls Try.prog 18 #[.pointer none, .int .i64 t] w fun e w' => e = .returned (.tuple #[]) ∧ w = w' := by
  go_enter Try.func18, Try.ntmps18
  go_wp2
  go_returns
  exact ⟨rfl, rfl⟩
theorem nil_reads (w : World) : Calls Try.prog 22 #[.pointer none] w fun e w' => e = .returned (.int .i64 0) ∧ w = w' := by
  go_enter Try.func22, Try.ntmps22
  go_wp2
  go_returns
  exact ⟨rfl, rfl⟩
theorem nil_writes (w : World) : Calls Try.prog 23 #[.pointer none] w fun e w' => e = .returned (.int .i64 0) ∧ w = w' := by
  go_enter Try.func23, Try.ntmps23
  go_wp2
  go_returns
  exact ⟨rfl, rfl⟩
theorem nil_pages (w : World) : Calls Try.prog 24 #[.pointer none] w fun e w' => e = .returned (.slice none 0 0) ∧ w = w' := by
  go_enter Try.func24, Try.ntmps24
  go_wp2
  go_returns
  exact ⟨rfl, rfl⟩
theorem nil_copy (w : World) : Calls Try.prog 17 #[.pointer none] w fun e w' => e = .returned (.pointer none) ∧ w = w' := by
  go_enter Try.func17, Try.ntmps17
  go_wp2
  go_returns
  exact ⟨rfl, rfl⟩
end Go.Proofs.Ytfhjfbjilmbdhaa

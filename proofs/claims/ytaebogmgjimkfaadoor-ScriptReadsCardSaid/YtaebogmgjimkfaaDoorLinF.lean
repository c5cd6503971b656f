/-
  strconv.FormatUint at base 10; what the library's tables hold, and that it stays so.
-/
import Derived.Test.YtaebogmgjimkfaaDoorShf
import Derived.Test.YtaebogmgjimkfaaDoorScrB
import Derived.Test.YtaebogmgjimkfaaDoorLinP
import Derived.Lib.ItoaMem
import Derived.Lib.Walk
import Derived.Lib.AppendIntMem
import Derived.CellFam
import Derived.IntWalk
namespace Go.Proofs.YtaebogmgjimkfaaDoor
open Go.RowKit Go.Maps Go.Sort
set_option linter.unusedVariables false
set_option linter.unusedSimpArgs false
/-- A table of numbers lies whole in its variable. -/
def TabV (w : World) (g : Nat) (zs : List Int) : Prop := ∃ t x, w.heap[g]? = some (.cells (zs.map fun z => Value.int .u64 z).toArray t x)
theorem TabV.lt {w : World} {g : Nat} {zs : List Int} (h : TabV w g zs) : g < w.heap.size := by
  obtain ⟨t, x, hh⟩ := h
  rcases Nat.lt_or_ge g w.heap.size with h' | h'
  · exact h'
  · simp [Array.getElem?_eq_none h'] at hh
theorem TabV.fr {w w' : World} {g : Nat} {zs : List Int} (h : TabV w g zs) (f : Fr NoF w w') : TabV w' g zs := by
  have hl := h.lt
  obtain ⟨t, x, hh⟩ := h
  exact ⟨t, x, (f.block g hl id).trans hh⟩
theorem TabV.is {P : Program} {w : World} {g : Nat} {zs : List Int} {name : String} (h : TabV w g zs) (hg : P.globalNamed name = some g) : Lib.TabIs P w name .u64 zs := by
  obtain ⟨t, x, hh⟩ := h
  unfold Lib.TabIs World.var?
  rw [hg]
  simp [hh]
theorem TabV.of {P : Program} {w : World} {g : Nat} {zs : List Int} {name : String} (hg : P.globalNamed name = some g) (h : Lib.TabIs P w name .u64 zs) : TabV w g zs := by
  unfold Lib.TabIs World.var? at h
  rw [hg] at h
  simp only [Option.bind_some] at h
  split at h
  · next cs t x e => cases h; exact ⟨t, x, e⟩
  · cases h
/-- The phrases' table reads as it is written. -/
structure Phr (w : World) : Prop where
  pn : ∀ j, j < 8 → w.cell? ⟨0, j * 3, none⟩ = some (.string (nameZ j))
  pi : ∀ j, j < 8 → w.cell? ⟨0, j * 3 + 1, none⟩ = some (.bool (idZ j))
  pv : ∀ j, j < 8 → w.cell? ⟨0, j * 3 + 2, none⟩ = some (.bool (vZ j))
theorem Phr.fr0 {w w' : World} (h : Phr w) (f : Fr NoF w w') : Phr w' := by
  have l2 := World.block_lt_of_cell? (w := w) (a := ⟨0, 0, none⟩) (h.pn 0 (by decide))
  exact ⟨fun j hj => (f.cell (p := ⟨0, j * 3, none⟩) l2 id).trans (h.pn j hj), fun j hj => (f.cell (p := ⟨0, j * 3 + 1, none⟩) l2 id).trans (h.pi j hj), fun j hj => (f.cell (p := ⟨0, j * 3 + 2, none⟩) l2 id).trans (h.pv j hj)⟩
/-- The library's variables that are read. -/
structure LT (w : World) : Prop where
  tb : Phr w
  pw : TabV w 5 Lib.pow10Tab
  es : ∃ te pe, w.cell? ⟨3, 0, none⟩ = some (.iface te pe)
  er : ∃ te pe, w.cell? ⟨4, 0, none⟩ = some (.iface te pe)
  ml : ∃ m, w.cell? ⟨Tryd.laysM145_ren.g 1, 0, none⟩ = some (.int .i64 m)
theorem LT.fr {w w' : World} (h : LT w) (f : Fr NoF w w') : LT w' := by
  obtain ⟨h1, h2, ⟨a, b, h3⟩, ⟨c, d, h4⟩, ⟨m, h5⟩⟩ := h
  have k : ∀ {p : Addr} {v : Value}, w.cell? p = some v → w'.cell? p = some v := fun {p v} q => (f.cell (p := p) (World.block_lt_of_cell? (w := w) (a := p) q) id).trans q
  exact ⟨h1.fr0 f, h2.fr f, ⟨a, b, k h3⟩, ⟨c, d, k h4⟩, ⟨m, k h5⟩⟩
set_option maxHeartbeats 12800000 in
set_option maxRecDepth 100000 in
theorem iformat_calls {w : World} (hT : LT w) {u : Nat} (hu64 : u < 18446744073709551616) :
    Calls Tryd.prog 37 #[.int .u64 u, .int .i64 10] w fun e w' => e = .returned (.string ⟨(Lib.decDigits u).toArray⟩) ∧ Fr NoF w w' := by
  by_cases hs : u < 100
  · have iu : (u : Int) < 100 := by omega
    go_enter Tryd.func37, Tryd.ntmps37
    go_wp2_with fail
    refine (Any.internal_strconv_small Tryd.lays283 u hs _).mono ?_
    rintro e w' ⟨rfl, rfl⟩
    go_wp2
    go_returns
    exact ⟨rfl, Fr.refl _ _⟩
  · have hu1 : 1 ≤ u := by omega
    have hnd20 : Lib.nDigits u ≤ 20 := by have := Lib.numDigits_eq u hu1 hu64; split at this <;> omega
    have hsl : ∀ W, (Instr.sliceAt 93 (.pointer (some ⟨w.heap.size, 0, none⟩)) none (some (.int .i64 (Lib.nDigits u : Int))) none).run Tryd.prog W = .ok (.slice (some ⟨w.heap.size, 0, none⟩) (Lib.nDigits u) 24) W := fun W => by
      have hal : Tryd.prog.arrayLen 93 = 24 := by simp [Program.arrayLen, Tryd.underlying93]
      rw [run_sliceAt_array_h W 93 ⟨w.heap.size, 0, none⟩ (by simp [Program.arrayLen, Program.elem, Tryd.underlying93]) .i64 (Lib.nDigits u : Int) (by omega) (by rw [hal]; omega)]
      go_simp
    have hH0 := Lib.holds_zero0 w 93 (Lib.nDigits u) (by omega)
    have hfmt := Any.internal_strconv_formatBase10 Tryd.lays285 w.heap.size 0 24 u (Array.replicate (Lib.nDigits u) 0) (w.alloc (.cells Lib.zeros24 93)) hH0 (by rw [Array.size_replicate]; exact Lib.lt_pow_nDigits u) hu64 (by rw [Array.size_replicate]; omega)
    rw [Array.size_replicate] at hfmt
    have HH0 := Lib.hid hH0
    have HND : Hid (Calls Tryd.prog 49 #[.int .u64 u] (w.alloc (.cells Lib.zeros24 93)) fun e w' => e = .returned (.int .i64 (Lib.nDigits u : Nat)) ∧ (w.alloc (.cells Lib.zeros24 93)) = w') :=
      (Any.internal_strconv_numDigits Tryd.laysM284 u hu1 hu64 _ (TabV.is (hT.pw.fr ((Fr.refl _ _).alloc _)) (by kernel_rfl))).mono fun e w' h => ⟨h.1, h.2.symm⟩
    have HF := Lib.hid hfmt
    have iu : (100 : Int) ≤ (u : Int) := by omega
    clear hH0 hfmt hT
    go_enter Tryd.func37, Tryd.ntmps37
    go_wp2_with fail
    refine HND.out.mono ?_
    rintro e w' ⟨rfl, rfl⟩
    go_wp2_with fail
    refine HF.out.mono ?_
    rintro e w' ⟨rfl, k, v', dk, rfl, hF⟩
    have hcv : (convert 22 9 (.slice (some ⟨w.heap.size, 0, none⟩) (Lib.nDigits u) 24)).run Tryd.prog ((putRow (fun (b : UInt8) => Value.int .u8 (b.toNat : Int)) (w.alloc (.cells Lib.zeros24 93)) w.heap.size 0 dk).drewN k) = .ok (.string ⟨(Lib.decDigits u).toArray⟩) ((putRow (fun (b : UInt8) => Value.int .u8 (b.toNat : Int)) (w.alloc (.cells Lib.zeros24 93)) w.heap.size 0 dk).drewN k) := by
      have h := run_convert_bytes_back (P := Tryd.prog) ((putRow (fun (b : UInt8) => Value.int .u8 (b.toNat : Int)) (w.alloc (.cells Lib.zeros24 93)) w.heap.size 0 dk).drewN k) 22 9 5 ⟨w.heap.size, 0, none⟩ 24 (Lib.decDigits u) Tryd.underlying22 Tryd.underlying5 Tryd.underlying9 (fun j hj => by
        rw [Lib.row_is_numeral hF j hj, Lib.add_plain, World.cell?_drewN]
        exact cell?_putRow (fun (b : UInt8) => Value.int .u8 (b.toNat : Int)) _ w.heap.size 0 _ dk HH0.out (by rw [hF.size, Array.size_replicate]) j (by rw [hF.size]; rw [Lib.decDigits_length] at hj; exact hj))
      rw [Lib.decDigits_length] at h
      exact h
    obtain ⟨os, eo⟩ := Lib.fin_at w (.cells Lib.zeros24 93) dk k 0
    have fz : Hid (Fr NoF w ((putRow (fun (b : UInt8) => Value.int .u8 (b.toNat : Int)) (w.alloc (.cells Lib.zeros24 93)) w.heap.size 0 dk).drewN k)) := Fr.ofBelow (by rw [eo]; exact Lib.below_grow _ w (Nat.le_refl _) k os)
    generalize (putRow (fun (b : UInt8) => Value.int .u8 (b.toNat : Int)) (w.alloc (.cells Lib.zeros24 93)) w.heap.size 0 dk).drewN k = W2 at hcv fz ⊢
    clear eo HH0 HF HND hF
    go_wp2
    go_returns
    exact ⟨rfl, fz.out⟩
theorem format_calls {w : World} (hT : LT w) {u : Nat} (hu64 : u < 18446744073709551616) :
    Calls Tryd.prog 33 #[.int .u64 u, .int .i64 10] w fun e w' => e = .returned (.string ⟨(Lib.decDigits u).toArray⟩) ∧ Fr NoF w w' := by
  have H := Lib.hid (iformat_calls hT hu64)
  clear hT hu64
  go_enter Tryd.func33, Tryd.ntmps33
  go_wp2_with fail
  refine H.out.mono ?_
  rintro e w1 ⟨rfl, h1⟩
  have H1 := Lib.hid h1
  clear h1
  go_wp2
  go_returns
  exact ⟨rfl, H1.out⟩
end Go.Proofs.YtaebogmgjimkfaaDoor

/-
  Script's tables; a call of three bytes.
-/
import Derived.Test.YtaebogmgjimkfaaDoorScrA
namespace Go.Proofs.YtaebogmgjimkfaaDoor
open Go.RowKit Go.Maps
set_option linter.unusedVariables false
set_option linter.unusedSimpArgs false
def kindZ (j : Nat) : Nat := [0, 1, 1, 1, 2, 2, 2, 3, 4, 4, 5, 6, 7, 0, 1, 2].getD j 0
def idZ (k : Nat) : Bool := !(k == 0 || k == 6)
def vZ (k : Nat) : Bool := k == 4
def nameZ (k : Nat) : ByteArray := ⟨([[110, 101, 119], [102, 101, 116, 99, 104], [117, 110, 112, 105, 110], [114, 101, 97, 100], [119, 114, 105, 116, 101], [102, 108, 117, 115, 104], [102, 108, 117, 115, 104, 97, 108, 108], [100, 101, 108, 101, 116, 101]].getD k []).toArray⟩
/-- Both tables read as they are written. -/
structure Tabs (w : World) : Prop where
  kz : ∀ j, j < 16 → w.cell? ⟨1, j, none⟩ = some (.int .i64 (kindZ j : Nat))
  pn : ∀ j, j < 8 → w.cell? ⟨0, j * 3, none⟩ = some (.string (nameZ j))
  pi : ∀ j, j < 8 → w.cell? ⟨0, j * 3 + 1, none⟩ = some (.bool (idZ j))
  pv : ∀ j, j < 8 → w.cell? ⟨0, j * 3 + 2, none⟩ = some (.bool (vZ j))
theorem Tabs.fr0 {w w' : World} (h : Tabs w) (f : Fr NoF w w') : Tabs w' := by
  have l1 := World.block_lt_of_cell? (w := w) (a := ⟨1, 0, none⟩) (h.kz 0 (by decide))
  have l2 := World.block_lt_of_cell? (w := w) (a := ⟨0, 0, none⟩) (h.pn 0 (by decide))
  exact ⟨fun j hj => (f.cell (p := ⟨1, j, none⟩) l1 id).trans (h.kz j hj), fun j hj => (f.cell (p := ⟨0, j * 3, none⟩) l2 id).trans (h.pn j hj), fun j hj => (f.cell (p := ⟨0, j * 3 + 1, none⟩) l2 id).trans (h.pi j hj), fun j hj => (f.cell (p := ⟨0, j * 3 + 2, none⟩) l2 id).trans (h.pv j hj)⟩
/-- A result that is a struct in a block. -/
theorem res_blk {P : Program} {fn : Func} {p : Tmp} {ty : TypeId} (h : fn.results = #[.cell p ty]) (tmps : Array Value) (w : World) {g N : Nat} {c : Nat → Value} {d : TypeDesc} (hb : Blk w g N c) (hp : tmps.getD p undef = .pointer (some ⟨g, 0, none⟩))
    (hu : P.underlying ty = some d) (hd : (match d with | .struct _ | .array _ _ => true | _ => false) = true) (hi : (P.info? ty).map (·.size) = some N) :
    (results fn tmps).run P w = .ok (.agg ((List.range N).map c).toArray) w := by
  obtain ⟨cs, t, hh, hs, hc⟩ := hb
  have e : cs = ((List.range N).map c).toArray := by
    apply Array.ext_getElem?
    intro i
    by_cases hi : i < N
    · rw [hc i hi]; simp [hi]
    · rw [Array.getElem?_eq_none (by omega)]; simp [hi]
  rw [← e]
  exact results_cell_row h tmps w g t cs (0, 0) d hp hh hu hd (by rw [hi, hs])
def idOf (k y : Nat) : Nat := if idZ k = true then 1 + y % 10 else 0
def vOf (k z : Nat) : Nat := if vZ k = true then z else 0
set_option maxHeartbeats 1000000 in
theorem scr_call {w : World} (hT : Tabs w) {k y z : Nat} (hk : k < 8) (hy : y < 256) (hz : z < 256) :
    Calls Tryd.prog 30 #[.int .i64 k, .int .u8 y, .int .u8 z] w fun e w' => e = .returned (.agg #[.int .i64 k, .int .u32 (idOf k y : Nat), .int .u64 (vOf k z : Nat)]) ∧ Fr NoF w w' := by
  have HP : Hid (∀ W, Fr NoF w W → W.cell? ⟨0, k * 3 + 1, none⟩ = some (.bool (idZ k)) ∧ W.cell? ⟨0, k * 3 + 2, none⟩ = some (.bool (vZ k))) := fun W f => ⟨(hT.fr0 f).pi k hk, (hT.fr0 f).pv k hk⟩
  have hl := World.block_lt_of_cell? (w := w) (a := ⟨0, 0, none⟩) (hT.pn 0 (by decide))
  obtain ⟨q1, q2⟩ := HP.out w (Fr.refl _ _)
  clear hT HP
  have e1 : ((y : Int) % 10).toNat = y % 10 := by omega
  unfold idOf vOf
  go_enter Tryd.func30, Tryd.ntmps30
  cases c1 : idZ k <;> cases c2 : vZ k <;> rw [c1] at q1 <;> rw [c2] at q2
  all_goals
    go_wp2
    go_returns
    exact ⟨rfl, ((Fr.refl _ _).alloc _).alloc _⟩
end Go.Proofs.YtaebogmgjimkfaaDoor

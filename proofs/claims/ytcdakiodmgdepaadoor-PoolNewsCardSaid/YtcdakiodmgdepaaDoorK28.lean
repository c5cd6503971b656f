/-
  A Disk in memory: slices.Clone, Copy.
-/
import Derived.Test.YtcdakiodmgdepaaDoorK27
namespace Go.Proofs.YtcdakiodmgdepaaDoor
open Go.RowKit Go.Maps
set_option linter.unusedVariables false
set_option maxRecDepth 100000

theorem own_zero {w : World} {base e size n : Nat} {v : Value} {xs : List Value} (h : w.ownsRow base e size v n xs) : w.ownsRow 0 e size v n xs := by
  obtain ⟨h1, h2⟩ := h
  refine ⟨h1, h2.imp id ?_⟩
  rintro ⟨g, cap, cur, e1, hg, r⟩
  exact ⟨g, cap, cur, e1, Nat.zero_le _, r⟩
theorem own_base {w : World} {base e size n : Nat} {v : Value} {xs : List Value} (h : w.ownsRow base e size v n xs) : ∀ b, v.ownBlock = some b → base ≤ b := ownBlock_own h
section
variable {w w' : World} {n : Nat} {v : Value}
end
def DS.copy (s : DS) : DS := ⟨s.room, s.np, s.pg, fun _ => 0, false, 0, 0, 0⟩
section
variable {w w' : World} {db c mb nf : Nat} {s : DS} {pv fv : Value} {fh : Nat → Nat} {F : Nat → Prop}
theorem DC.copied (h : DC w db s c pv fv mb fh nf) {wz : World} {pv' fv' : Value} {mb' : Nat} (hp : SlF wz 79 2 pv' s.np (pgF s.pg)) (hf : SlF wz 33 1 fv' nf (uN fh)) (hm : MpK Tryd.prog 87 3 .i64 okA klA wz mb' 0 (fun _ => none)) (n1 : ∀ b, pv'.ownBlock = some b → ¬ b = mb' ∧ ¬ fv'.ownBlock = some b ∧ w.heap.size ≤ b) (n2 : ∀ b, fv'.ownBlock = some b → ¬ b = mb' ∧ w.heap.size ≤ b) (n3 : w.heap.size ≤ mb') (f : Fr NoF w wz) {db' : Nat} (e : db' = wz.heap.size) :
    DC (wz.alloc (.cells #[.int .i64 s.room, pv', fv', .map (some mb'), .bool false, .int .i64 0, .int .i64 0, .int .i64 0] 52)) db' s.copy 0 pv' fv' mb' fh nf ∧ (∀ i, FD db' pv' fv' mb' i → w.heap.size ≤ i) ∧ Fr NoF w (wz.alloc (.cells #[.int .i64 s.room, pv', fv', .map (some mb'), .bool false, .int .i64 0, .int .i64 0, .int .i64 0] 52)) := by
  subst e
  have fa : Fr NoF wz (wz.alloc (.cells #[.int .i64 s.room, pv', fv', .map (some mb'), .bool false, .int .i64 0, .int .i64 0, .int .i64 0] 52)) := (Fr.refl NoF wz).alloc _
  have lm := hm.lt
  have sz := f.size
  have hm' : MpK Tryd.prog 87 3 .i64 okA klA wz mb' 0 (flM (fun _ => 0)) := by rw [flM_zero]; exact hm
  refine ⟨⟨⟨_, _, heap_alloc_new _ _ _ rfl, rfl, fun i hi => ?_⟩, hp.fr0 fa, hf.fr0 fa, hm'.fr fa (fun q => q), fun b q => ⟨by have := hp.lt b q; omega, (n1 b q).1, (n1 b q).2.1⟩, fun b q => ⟨by have := hf.lt b q; omega, (n2 b q).1⟩, by omega, h.r1, h.r2, h.hp, h.inj, h.nn, h.fm, by omega, ⟨by show isI63 0; unfold isI63; omega, by show (0 : Nat) < _; omega, by show (0 : Nat) < _; omega⟩, fun a => by show isI63 0; unfold isI63; omega⟩, fun i q => ?_, f.alloc _⟩
  · match i, hi with
    | 0, _ => rfl
    | 1, _ => rfl
    | 2, _ => rfl
    | 3, _ => rfl
    | 4, _ => rfl
    | 5, _ => rfl
    | 6, _ => rfl
    | 7, _ => rfl
  · rcases q with q | q | q | q
    · rw [q]; exact sz
    · rw [q]; exact n3
    · exact (n1 i q).2.2
    · exact (n2 i q).2
end
end Go.Proofs.YtcdakiodmgdepaaDoor

/-
  slices.Values, slices.AppendSeq, slices.Collect at things.
-/
import Derived.RangeFuncNested
import Derived.RangeFuncBound
import Derived.RangeFuncCalls
import Derived.RangeFuncLeaves
import Derived.Shelf.Abstract
import Derived.Shelf.RegionOpen
import Derived.WalkKit
import Derived.OwnWalkIn
import Derived.TacticsInMore
import Derived.LoopNIn
import Derived.LoopIn
import Derived.Maps.AppendAt
import Derived.Test.YtpebonpibhdfoaaQueG
namespace Go.Proofs.Ytpebonpibhdfoaa
open Go.RowKit Go.Maps Go.Shelf
set_option linter.unusedVariables false
attribute [local go_sem] Oper.semAt_some

def uptoT (a : Nat → Th) (k : Nat) : List Th := (List.range k).map a
theorem uptoT_succ (a : Nat → Th) (k : Nat) : uptoT a (k + 1) = uptoT a k ++ [a k] := by simp [uptoT, List.range_succ]
theorem uptoT_length (a : Nat → Th) (k : Nat) : (uptoT a k).length = k := by simp [uptoT]
/-- The things a 0 .. a (n - 1) lie in block b from its start. -/
def ThAt (W : World) (b n : Nat) (a : Nat → Th) : Prop := ∀ j, j < n → W.cell? ⟨b, j * 3, none⟩ = some (.int .i64 (a j).x) ∧ W.cell? ⟨b, j * 3 + 1, none⟩ = some (.int .i64 (a j).a) ∧ W.cell? ⟨b, j * 3 + 2, none⟩ = some (.int .i64 (a j).b)
theorem ThAt.below {n₀ : Nat} {A B : World} {b n : Nat} {a : Nat → Th} (h : Below n₀ A B) (hb : b < n₀) (hc : ThAt A b n a) : ThAt B b n a := fun j hj =>
  ⟨(h.cell (p := ⟨b, j * 3, none⟩) hb).trans (hc j hj).1, (h.cell (p := ⟨b, j * 3 + 1, none⟩) hb).trans (hc j hj).2.1, (h.cell (p := ⟨b, j * 3 + 2, none⟩) hb).trans (hc j hj).2.2⟩

set_option maxRecDepth 100000 in
set_option maxHeartbeats 2000000 in
theorem values1_in (F : Fence) (n : Nat) (h7 : F.fn 27) (hro : F.round = none) (hn : 1 ≤ n) (l Bs n₀ b len cap : Nat) (a : Nat → Th) (hlen : len < 1000000) (hb : b < n₀) (J Jx : List Th → World → Prop)
    (hY : ∀ pre x W, J pre W → pre.length < len → YieldAt F (n - 1) Try.prog l #[thV x] W fun e W' =>
      (e = .returned (.bool true) ∧ J (pre ++ [x]) W' ∧ Below n₀ W W') ∨ (e = .returned (.bool false) ∧ Jx (pre ++ [x]) W'))
    (W : World) (hJ : AbidesFrom W.heap.size J) (hn₀ : n₀ ≤ W.heap.size) (hBs : W.cell? ⟨Bs, 0, none⟩ = some (.slice (some ⟨b, 0, none⟩) len cap)) (hc : ThAt W b len a) (h0 : J [] W) :
    CallsIn F n Try.prog 27 #[.func (.yield l) #[] #[], .pointer (some ⟨Bs, 0, none⟩)] W fun e W' => (∃ v, e = .returned v) ∧
      ((∃ ys, ys = uptoT a len ∧ J ys W') ∨ (∃ pre, (∃ k, k ≤ len ∧ pre = uptoT a k) ∧ Jx pre W')) := by
  refine callsIn_of_wp Try.func27 rfl h7 ?_ hro
  simp only [Try.ntmps27, List.size_toArray, List.length_cons, List.length_nil, Nat.reduceAdd, Nat.reduceSub, Array.replicate_succ, Array.replicate_zero, List.push_toArray, List.append_toArray, List.nil_append, List.cons_append]
  gi_wp2
  gi_loopw [7] (fun i wr => ∃ k : Nat, k ≤ len ∧ i = .int .i64 k ∧ J (uptoT a k) wr ∧ Below n₀ W wr)
    (fun i _ => len - (intOf i).toNat)
  case atStart => exact ⟨0, Nat.zero_le _, rfl, h0, Below.refl _ _⟩
  case round =>
    obtain ⟨k, hk, rfl, hJs, hnx⟩ := hrel
    by_cases hlt : k < len
    · have hsz := hnx.size
      have hJa : J (uptoT a k) (wr.alloc (.cells #[.int .i64 (a k).x, .int .i64 (a k).a, .int .i64 (a k).b] 54)) := hJ _ _ _ none hJs (World.grownBy_alloc _ _ none) (fun r e => by cases e)
      have hBa : Below n₀ wr (wr.alloc (.cells #[.int .i64 (a k).x, .int .i64 (a k).a, .int .i64 (a k).b] 54)) := (Below.refl _ _).alloc (by omega) _
      obtain ⟨fn, tmps, assign, body, hy, hR⟩ := hY _ (a k) _ hJa (by rw [uptoT_length]; exact hlt)
      have hnx' := hnx.trans hBa
      obtain ⟨i0, i1, i2⟩ := (ThAt.below hnx hb hc) k hlt
      have hUS := uptoT_succ a k
      generalize (a k) = t at *
      obtain ⟨tx, ta, tb⟩ := t
      simp only [thV] at hy
      dsimp only at i0 i1 i2 hy hR hJa hBa hnx'
      gi_wp2
      refine hR.mono ?_
      rintro e W3 (⟨rfl, hJ3, hk3⟩ | ⟨rfl, hJx3⟩)
      · gi_wp2
        go_roundw
        case rel => exact ⟨k + 1, by omega, by simp, by rw [hUS]; exact hJ3, hnx'.trans hk3⟩
        case measure => simp [intOf]; omega
      · gi_wp2
        refine bodyPost_ret (results_none rfl _ _ _) rfl ?_
        exact ⟨⟨_, rfl⟩, .inr ⟨_, ⟨k + 1, by omega, hUS.symm⟩, hJx3⟩⟩
    · obtain rfl : k = len := by omega
      gi_wp2
      go_end0
      exact ⟨⟨_, rfl⟩, .inl ⟨_, rfl, hJs⟩⟩
set_option maxRecDepth 100000 in
set_option maxHeartbeats 1000000 in
theorem values1_nil_in (F : Fence) (n : Nat) (h7 : F.fn 27) (hro : F.round = none) (l Bs : Nat) (J : List Th → World → Prop) (W : World) (hBs : W.cell? ⟨Bs, 0, none⟩ = some (.slice none 0 0)) (h0 : J [] W) :
    CallsIn F n Try.prog 27 #[.func (.yield l) #[] #[], .pointer (some ⟨Bs, 0, none⟩)] W fun e W' => (∃ v, e = .returned v) ∧ J [] W' := by
  refine callsIn_of_wp Try.func27 rfl h7 ?_ hro
  simp only [Try.ntmps27, List.size_toArray, List.length_cons, List.length_nil, Nat.reduceAdd, Nat.reduceSub, Array.replicate_succ, Array.replicate_zero, List.push_toArray, List.append_toArray, List.nil_append, List.cons_append]
  gi_wp2
  gi_loopw [7] (fun i wr => i = .int .i64 0 ∧ J [] wr) (fun _ _ => 0)
  case atStart => exact ⟨rfl, h0⟩
  case round =>
    obtain ⟨rfl, hJs⟩ := hrel
    gi_wp2
    go_end0
    exact ⟨⟨_, rfl⟩, hJs⟩
set_option maxHeartbeats 1000000 in
theorem values_in (F : Fence) (n : Nat) (h5 : F.fn 20) (hro : F.round = none) (a : Option Addr) (len cap : Nat) (w : World) :
    CallsIn F n Try.prog 20 #[.slice a len cap] w fun e w' => e = .returned (.func (.func 27) #[] #[.pointer (some ⟨w.heap.size, 0, none⟩)]) ∧ w' = w.alloc (.cells #[.slice a len cap] 47) := by
  refine callsIn_of_wp Try.func20 rfl h5 ?_ hro
  simp only [Try.ntmps20, List.size_toArray, List.length_cons, List.length_nil, Nat.reduceAdd, Nat.reduceSub, Array.replicate_succ, Array.replicate_zero, List.push_toArray, List.append_toArray, List.nil_append, List.cons_append]
  gi_wp2
  go_ret
  exact ⟨rfl, rfl⟩
/-- The slice value sv holds n things, in a block below n₀; or it is nil and there are none. -/
def ThSl (n₀ : Nat) (W : World) (sv : Value) (n : Nat) (a : Nat → Th) : Prop :=
  (sv = .slice none 0 0 ∧ n = 0) ∨ ∃ b cap, sv = .slice (some ⟨b, 0, none⟩) n cap ∧ b < n₀ ∧ ThAt W b n a
theorem ThSl.below {n₀ m : Nat} {A B : World} (h : Below n₀ A B) (hm : m ≤ n₀) {sv : Value} {n : Nat} {a : Nat → Th} : ThSl m A sv n a → ThSl m B sv n a
  | .inl e => .inl e
  | .inr ⟨b, cap, e, hb, hc⟩ => .inr ⟨b, cap, e, hb, ThAt.below h (by omega) hc⟩
theorem values_stops (F : Fence) (n : Nat) (h7 : F.fn 27) (hro : F.round = none) (hn : 1 ≤ n) (Bs n₀ len : Nat) (sv : Value) (a : Nat → Th) (hlen : len < 1000000) (w : World) (hBs : Bs < w.heap.size) (hn₀ : n₀ ≤ w.heap.size)
    (hc : w.cell? ⟨Bs, 0, none⟩ = some sv) (hI : ThSl n₀ w sv len a) :
    SeqStopsK F n Try.prog 27 #[.pointer (some ⟨Bs, 0, none⟩)] (fun x : Th => #[thV x]) (Below n₀) (fun ys => ys = uptoT a len) (fun _ => True) len w := fun l J Jx W hW hJ _ hY h0 => by
  have hc' := (hW.cell (p := ⟨Bs, 0, none⟩) hBs).trans hc
  have hsz := hW.size
  rcases hI.below hW (by omega) with ⟨rfl, rfl⟩ | ⟨b, cap, rfl, hb, hcs⟩
  · exact (values1_nil_in F n h7 hro l Bs J W hc' h0).mono fun e W' ⟨he, hj⟩ => ⟨he, .inl ⟨_, rfl, hj⟩⟩
  · refine (values1_in F n h7 hro hn l Bs n₀ b len cap a hlen hb J Jx hY W hJ (by omega) hc' hcs h0).mono ?_
    rintro e W' ⟨he, ⟨ys, rfl, hj⟩ | ⟨pre, ⟨k, hk, rfl⟩, hj⟩⟩
    · exact ⟨he, .inl ⟨_, rfl, hj⟩⟩
    · exact ⟨he, .inr ⟨_, trivial, hj⟩⟩
end Go.Proofs.Ytpebonpibhdfoaa

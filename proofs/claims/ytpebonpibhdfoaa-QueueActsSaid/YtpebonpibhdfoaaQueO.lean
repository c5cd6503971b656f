/-
  A Queue's Of; All as a list; a nil Queue; a list without its first.
-/
import Derived.Test.YtpebonpibhdfoaaQueN
namespace Go.Proofs.Ytpebonpibhdfoaa
open Go.RowKit Go.Maps
set_option linter.unusedVariables false

section
variable {w w' : World} {qb n : Nat} {F : Nat → Prop} {M : Th → Prop} {v : Value} {l : List Th}
theorem nil_find (x : Int) (w : World) : Calls Try.prog 17 #[.pointer none, .int .i64 x] w fun e w' => e = .returned (.tuple #[.int .i64 0, .bool false]) ∧ w = w' := by
  go_enter Try.func17, Try.ntmps17
  go_wp2
  go_returns
  exact ⟨rfl, rfl⟩
theorem nil_len (w : World) : Calls Try.prog 12 #[.pointer none] w fun e w' => e = .returned (.int .i64 0) ∧ w = w' := by
  go_enter Try.func12, Try.ntmps12
  go_wp2
  go_returns
  exact ⟨rfl, rfl⟩
theorem nil_least (w : World) : Calls Try.prog 6 #[.pointer none] w fun e w' => e = .returned (.tuple #[.int .i64 0, .bool false]) ∧ w = w' := by
  go_enter Try.func6, Try.ntmps6
  go_wp2_with fail
  refine (nil_len _).mono ?_
  rintro e w1 ⟨rfl, rfl⟩
  go_wp2
  go_returns
  exact ⟨rfl, rfl⟩
theorem nil_drop (x : Int) (w : World) : Calls Try.prog 10 #[.pointer none, .int .i64 x] w fun e w' => e = .returned (.bool false) ∧ w = w' := by
  go_enter Try.func10, Try.ntmps10
  go_wp2_with fail
  refine (nil_find _ _).mono ?_
  rintro e w1 ⟨rfl, rfl⟩
  go_wp2
  go_returns
  exact ⟨rfl, rfl⟩
theorem nil_all (w : World) : Calls Try.prog 11 #[.pointer none] w fun e w' => e = .returned (.slice none 0 0) ∧ w = w' := by
  go_enter Try.func11, Try.ntmps11
  go_wp2
  go_returns
  exact ⟨rfl, rfl⟩
theorem nil_put (x a b : Int) (w : World) : Calls Try.prog 7 #[.pointer none, .int .i64 x, .agg #[.int .i64 a, .int .i64 b]] w fun e w' => e = .returned (.tuple #[]) ∧ Fr NoF w w' := by
  have HF : Hid (Fr NoF w (w.alloc (.cells #[.int .i64 a, .int .i64 b] 36))) := (Fr.refl NoF w).alloc _
  go_enter Try.func7, Try.ntmps7
  go_wp2
  go_returns
  exact ⟨rfl, HF.out⟩
theorem nil_of (x : Int) (w : World) : Calls Try.prog 13 #[.pointer none, .int .i64 x] w fun e w' => e = .returned (.tuple #[.agg #[.int .i64 0, .int .i64 0], .bool false]) ∧ Fr NoF w w' := by
  have HF : Hid (Fr NoF w (w.alloc (.cells #[.int .i64 0, .int .i64 0] 36))) := (Fr.refl NoF w).alloc _
  go_enter Try.func13, Try.ntmps13
  go_wp2_with fail
  refine (nil_find _ _).mono ?_
  rintro e w1 ⟨rfl, rfl⟩
  go_wp2
  go_returns
  exact ⟨rfl, (Fr.refl NoF w).alloc _⟩
set_option maxHeartbeats 1000000 in
theorem qu_of (h : QS w qb M n F) {t : Th} (ht : M t) : Calls Try.prog 13 #[.pointer (some ⟨qb, 0, none⟩), .int .i64 t.x] w fun e w' => e = .returned (.tuple #[.agg #[.int .i64 t.a, .int .i64 t.b], .bool true]) ∧ Fr NoF w w' := by
  obtain ⟨a, ⟨lv, mo, g, h, hF⟩, hh, hM⟩ := h
  obtain ⟨k, hk, rfl⟩ := (hM t).1 ht
  have fA : Fr NoF w (w.alloc (.cells #[.int .i64 0, .int .i64 0] 36)) := (Fr.refl NoF w).alloc _
  have hA := h.fr0 fA
  have HFI := Lib.hid (qc_find_yes hA hk)
  have c0 := hA.c0
  have lb := hA.hd.lt
  have hsm := h.sm
  obtain ⟨gb, cap, rfl, g1, g2, g3, g4, i0, i1, i2⟩ := hA.el hk
  have hgl : ¬ gb = w.heap.size := by
    obtain ⟨gb', cap', e, _, _, q, _⟩ := h.el hk
    simp only [Value.slice.injEq, Option.some.injEq, Addr.mk.injEq] at e
    obtain ⟨⟨rfl, _⟩, _, _⟩ := e
    omega
  generalize (a k).x = tx at *
  generalize (a k).a = ta at *
  generalize (a k).b = tb at *
  clear h hA hF hh hM ht fA
  go_enter Try.func13, Try.ntmps13
  go_wp2_with fail
  refine HFI.out.mono ?_
  rintro e w1 ⟨rfl, rfl⟩
  go_wp2
  go_returns
  exact ⟨rfl, (Fr.refl NoF w).alloc _⟩
theorem srt_upto {a : Nat → Th} : ∀ {n}, (∀ i j, i < j → j < n → ltT (a i) (a j) = true) → Srt (uptoT a n) := by
  intro n
  induction n with
  | zero => intro _; exact List.Pairwise.nil
  | succ n ih =>
    intro h
    rw [uptoT_succ]
    refine List.pairwise_append.2 ⟨ih (fun i j h1 h2 => h i j h1 (by omega)), by simp, fun t ht u hu => ?_⟩
    obtain ⟨k, hk, rfl⟩ := mem_uptoT.1 ht
    obtain rfl : u = a n := by simpa using hu
    exact h k n hk (by omega)
theorem qu_list (h : QS w qb (fun t => t ∈ l) n F) (hs : Srt l) : Calls Try.prog 11 #[.pointer (some ⟨qb, 0, none⟩)] w fun e w' =>
    ∃ v, e = .returned v ∧ n = l.length ∧ w'.ownsRow w.heap.size 3 1 v n (l.map fun t => .int .i64 t.x) ∧ Fr NoF w w' := by
  refine (qu_all h).mono ?_
  rintro e w' ⟨v, a', rfl, ⟨h1, h2⟩, hr, hf⟩
  have e1 : uptoT a' n = l := srt_unique _ _ (srt_upto h1) hs (fun t => by rw [mem_uptoT]; exact (h2 t).symm)
  have e2 : n = l.length := by rw [← e1, uptoT_length]
  refine ⟨v, rfl, e2, ?_, hf⟩
  unfold xsT at hr
  rw [e1] at hr
  exact hr
theorem IL.tail {t : Th} {r : List Th} {b off c : Nat} (h : IL w (.slice (some ⟨b, off, none⟩) (r.length + 1) c) (t :: r)) : (c = 1 → IL w (.slice (some ⟨b, off, none⟩) 0 0) r ∧ r = []) ∧ (¬ c = 1 → IL w (.slice (some ⟨b, off + 3, none⟩) r.length (c - 1)) r) := by
  obtain ⟨_, c', e, h3, _⟩ := IL.shape h
  simp only [Value.slice.injEq] at e
  obtain ⟨_, _, rfl⟩ := e
  rw [List.length_cons] at h3
  constructor
  · rintro rfl
    have hl : r = [] := by apply List.eq_nil_of_length_eq_zero; omega
    subst hl
    exact ⟨⟨_, 0, rfl, by simp, by simp, Nat.le_refl _, by unfold maxLen; omega, .inr ⟨b, off, rfl, h.lt b rfl, fun j u hj => by simp at hj⟩⟩, rfl⟩
  · intro hc
    have h' : SlC w 3 (.slice (some ⟨b, off, none⟩) (t :: r).length c) (t :: r).length ((t :: r).flatMap thC) := h
    obtain ⟨b', off', e, h4⟩ := SlC.cut h' (lo := 1) (hi := (t :: r).length) (by simp) (Nat.le_refl _) rfl (by omega)
    simp only [Option.some.injEq, Addr.mk.injEq] at e
    obtain ⟨rfl, rfl, _⟩ := e
    unfold IL
    have e2 : (((t :: r).flatMap thC).drop (1 * 3)).take (((t :: r).length - 1) * 3) = r.flatMap thC := by
      have e3 : ((t :: r).flatMap thC).drop (1 * 3) = r.flatMap thC := rfl
      rw [e3, List.take_of_length_le]
      rw [thC_length, List.length_cons]; omega
    rw [e2, List.length_cons, Nat.add_sub_cancel] at h4
    exact h4
end
end Go.Proofs.Ytpebonpibhdfoaa

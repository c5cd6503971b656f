/-
  A Queue's All.
-/
import Derived.Test.YtpebonpibhdfoaaQueK
namespace Go.Proofs.Ytpebonpibhdfoaa
open Go.RowKit Go.Maps Go.Shelf
set_option linter.unusedVariables false

theorem EIint : EI Try.prog 41 3 1 8 := EI.mk' (z := .int .i64 0) Try.underlying41 (by kernel_rfl) rfl (by decide)
/-- The things of M, n of them, in their order. -/
def AllT (M : Th → Prop) (n : Nat) (a : Nat → Th) : Prop := (∀ i j, i < j → j < n → ltT (a i) (a j) = true) ∧ ∀ t, M t ↔ ∃ k, k < n ∧ a k = t
def xsT (a : Nat → Th) (n : Nat) : List Value := (uptoT a n).map fun t => .int .i64 t.x
theorem xsT_succ (a : Nat → Th) (n : Nat) : xsT a (n + 1) = xsT a n ++ [.int .i64 (a n).x] := by unfold xsT; rw [uptoT_succ, List.map_append]; rfl
theorem mem_uptoT {a : Nat → Th} {n : Nat} {t : Th} : t ∈ uptoT a n ↔ ∃ k, k < n ∧ a k = t := by simp [uptoT]
theorem nodup_inj {a : Nat → Th} : ∀ {n}, ((uptoT a n).map Th.x).Nodup → ∀ i j, i < j → j < n → ¬ (a i).x = (a j).x := by
  intro n
  induction n with
  | zero => intro _ i j _ q; omega
  | succ n ih =>
    intro h i j hij hj
    rw [uptoT_succ, List.map_append, List.nodup_append] at h
    by_cases e : j = n
    · subst e
      intro q
      exact h.2.2 (a i).x (List.mem_map.2 ⟨a i, mem_uptoT.2 ⟨i, hij, rfl⟩, rfl⟩) (a j).x (by simp) q
    · exact ih h.1 i j hij (by omega)
theorem inj_nodup {a : Nat → Th} : ∀ {n}, (∀ i j, i < n → j < n → (a i).x = (a j).x → i = j) → ((uptoT a n).map Th.x).Nodup := by
  intro n
  induction n with
  | zero => intro _; exact List.nodup_nil
  | succ n ih =>
    intro h
    rw [uptoT_succ, List.map_append, List.nodup_append]
    refine ⟨ih (fun i j hi hj => h i j (by omega) (by omega)), by simp, ?_⟩
    intro x hx y hy
    obtain ⟨t, ht, rfl⟩ := List.mem_map.1 hx
    obtain ⟨k, hk, rfl⟩ := mem_uptoT.1 ht
    obtain rfl : y = (a n).x := by simpa using hy
    intro q
    have := h k n (by omega) (by omega) q
    omega
theorem SortT.all {M : Th → Prop} {n : Nat} {a a' : Nat → Th} (h : SortT n a a') (hM : ∀ t, M t ↔ ∃ k, k < n ∧ a k = t) (hi : ∀ i j, i < n → j < n → (a i).x = (a j).x → i = j) : AllT M n a' := by
  obtain ⟨h1, h2⟩ := h
  have hn : ((uptoT a' n).map Th.x).Nodup := (h2.map Th.x).nodup_iff.2 (inj_nodup hi)
  refine ⟨fun i j hij hj => ltT_total (h1 i j hij hj) (fun q => nodup_inj hn i j hij hj q.symm), fun t => ?_⟩
  rw [hM t, ← mem_uptoT, ← mem_uptoT]
  exact h2.symm.mem_iff
section
variable {w w' : World} {qb n : Nat} {a : Nat → Th} {lv : Value} {mo : Option Nat} {g : Int → Option Int} {F : Nat → Prop} {M : Th → Prop}
theorem QC.thSl (h : QC w qb a n lv mo g) : ThSl w.heap.size w lv n a := by
  rcases Nat.eq_zero_or_pos n with e | e
  · subst e
    obtain ⟨hl, h2⟩ := h.li
    rcases h2 with ⟨h2, _⟩ | ⟨b, cap, cur, h2, _, hh, _⟩
    · exact .inl ⟨h2, rfl⟩
    · refine .inr ⟨b, cap, h2, ?_, fun j hj => by omega⟩
      rcases Nat.lt_or_ge b w.heap.size with h' | h'
      · exact h'
      · simp [Array.getElem?_eq_none h'] at hh
  · obtain ⟨b, cap, e1, _, _, hb, _⟩ := h.el e
    refine .inr ⟨b, cap, e1, hb, fun j hj => ?_⟩
    obtain ⟨b', cap', e2, _, _, _, _, i0, i1, i2⟩ := h.el hj
    rw [e1] at e2
    simp only [Value.slice.injEq, Option.some.injEq, Addr.mk.injEq] at e2
    obtain ⟨⟨rfl, _⟩, _, _⟩ := e2
    exact ⟨i0, i1, i2⟩
theorem Fr.toBelow (h : Fr NoF w w') : Below w.heap.size w w' := ⟨h.os, h.tape, h.output, h.size, fun k hk => h.block k hk (fun q => q)⟩
theorem ThL.cells {v : Value} (h : ThL w v n a) {G : Nat → Prop} (hG : ∀ i, v.ownBlock = some i → ¬ G i) : ∀ W, Fr G w W → ∀ k, k < n → ∃ b cap, v = .slice (some ⟨b, 0, none⟩) n cap ∧ n ≤ cap ∧ cap ≤ 9223372036854775807 ∧ b < W.heap.size ∧ W.cell? ⟨b, k * 3, none⟩ = some (.int .i64 (a k).x) ∧ W.cell? ⟨b, k * 3 + 1, none⟩ = some (.int .i64 (a k).a) ∧ W.cell? ⟨b, k * 3 + 2, none⟩ = some (.int .i64 (a k).b) := by
  intro W f k hk
  obtain ⟨ad, cap, rfl, h1, h2, h3⟩ := h
  obtain ⟨b, rfl, hb, hc⟩ := h3 (by omega)
  obtain ⟨i0, i1, i2⟩ := hc k hk
  have hg := hG b rfl
  exact ⟨b, cap, rfl, h1, by unfold maxLen at h2; omega, Nat.lt_of_lt_of_le hb f.size, by rw [f.cell (p := ⟨b, k * 3, none⟩) hb hg]; exact i0, by rw [f.cell (p := ⟨b, k * 3 + 1, none⟩) hb hg]; exact i1, by rw [f.cell (p := ⟨b, k * 3 + 2, none⟩) hb hg]; exact i2⟩
set_option maxHeartbeats 4000000 in
theorem qu_all (h : QS w qb M n F) : Calls Try.prog 11 #[.pointer (some ⟨qb, 0, none⟩)] w fun e w' =>
    ∃ v a', e = .returned v ∧ AllT M n a' ∧ w'.ownsRow w.heap.size 3 1 v n (xsT a' n) ∧ Fr NoF w w' := by
  have HL := Lib.hid (qu_len h)
  obtain ⟨a, ⟨lv, mo, g, h, hF⟩, hh, hM⟩ := h
  have hn := h.sm
  have hinj := Lib.hid h.inj
  have HM := Lib.hid hM
  have HC : Hid (∀ W, Fr NoF w W → W.cell? ⟨qb, 0, none⟩ = some lv) := fun W f => (h.fr0 f).c0
  have lb := h.hd.lt
  have HT := Lib.hid h.thSl
  obtain ⟨va, vc, rfl, v1, v2⟩ := h.li.shape
  obtain ⟨i0, hi0, hz0, hz1, hz2⟩ := info_parts' (P := Try.prog) (e := 3) (z := .int .i64 0) (s := 1) (b := 8) (by kernel_rfl)
  have mk1 : ∀ w : World, (Instr.makeSlice 41 (.int .i64 0) (.int .i64 (n : Int))).run Try.prog w =
      .ok (.slice (some ⟨w.heap.size, 0, none⟩) 0 n) (w.alloc (.cells (madeCells #[.int .i64 0] n) 3)) := by
    intro w
    have := run_make (P := Try.prog) w 41 3 i0 _ Try.underlying41 hi0 hz0 .i64 .i64 (0 : Int) (n : Int) (by omega) (by omega) (by rw [hz2]; omega) (by omega)
    rw [show (n : Int).toNat = n from by omega, hz1, Nat.mul_one] at this
    exact this
  clear h hF hh hM hi0 hz0 hz1 hz2
  go_enter Try.func11, Try.ntmps11
  go_wp2_with fail
  refine HL.out.mono ?_
  rintro e w1 ⟨rfl, rfl⟩
  have cW := HC.out _ ((Fr.refl NoF w).alloc (.cells (madeCells #[.int .i64 0] n) 3))
  go_wp2_with fail
  refine (values_calls _ _ _ _).mono ?_
  rintro e w1 ⟨rfl, rfl⟩
  have fA : Fr NoF w ((w.alloc (.cells (madeCells #[.int .i64 0] n) 3)).alloc (.cells #[.slice va n vc] 47)) := ((Fr.refl NoF w).alloc _).alloc _
  have HFA := Lib.hid fA
  have HMD : Hid (∀ W, Fr NoF (w.alloc (.cells (madeCells #[.int .i64 0] n) 3)) W → W.ownsRow w.heap.size 3 1 (.slice (some ⟨w.heap.size, 0, none⟩) 0 n) 0 (xsT a 0)) := by
    intro W f
    have h0 : (w.alloc (.cells (madeCells #[.int .i64 0] n) 3)).ownsRow w.heap.size 3 1 (.slice (some ⟨w.heap.size, 0, none⟩) 0 n) 0 (xsT a 0) :=
      ⟨rfl, .inr ⟨w.heap.size, n, _, rfl, Nat.le_refl _, heap_alloc_new _ _ _ rfl, Nat.zero_le _, by unfold maxLen; omega, by simp [size_madeCells], by simp [xsT, uptoT]⟩⟩
    exact own_keep h0 f (fun _ _ q => q)
  have HSO := Lib.hid (sorted_calls (w := (w.alloc (.cells (madeCells #[.int .i64 0] n) 3)).alloc (.cells #[.slice va n vc] 47)) (n₀ := w.heap.size) (Bs := (w.alloc (.cells (madeCells #[.int .i64 0] n) 3)).heap.size) hn fA.size (by simp) (Boxed.new _ _ _).cell (HT.out.below fA.toBelow (Nat.le_refl _)))
  have HFB : Hid (Fr NoF (w.alloc (.cells (madeCells #[.int .i64 0] n) 3)) ((w.alloc (.cells (madeCells #[.int .i64 0] n) 3)).alloc (.cells #[.slice va n vc] 47))) := (Fr.refl NoF _).alloc _
  have hbs : Hid (w.heap.size < ((w.alloc (.cells (madeCells #[.int .i64 0] n) 3)).alloc (.cells #[.slice va n vc] 47)).heap.size) := by unfold Hid; simp; omega
  clear fA
  generalize (w.alloc (.cells (madeCells #[.int .i64 0] n) 3)).alloc (.cells #[.slice va n vc] 47) = W2 at *
  generalize (w.alloc (.cells (madeCells #[.int .i64 0] n) 3)).heap.size = bS at *
  go_wp2_with fail
  refine HSO.out.mono ?_
  rintro e w3 ⟨v, a', rfl, hso, hth, hf3, hnew⟩
  have HAll := Lib.hid (hso.all HM.out hinj.out)
  have hlt2 := hbs.out
  have HTC := Lib.hid (hth.cells (G := fun i => i = w.heap.size) (fun i q e => by have := hnew i q; omega))
  obtain ⟨ta, tc, rfl, t1, t2, _⟩ := hth
  have F3 := Lib.hid hf3
  have HR0 : Hid (w3.ownsRow w.heap.size 3 1 (.slice (some ⟨w.heap.size, 0, none⟩) 0 n) 0 (xsT a' 0)) := HMD.out _ (HFB.out.trans F3.out (fun _ q => q.elim))
  have HF0 : Hid (Fr NoF w w3) := HFA.out.trans F3.out (fun _ q => q.elim)
  clear hso hf3 mk1 cW HMD HSO HFB HFA F3 HL HC HT
  unfold maxLen at t2
  go_wp2
  go_loopw [3, 19] (fun o i wr => ∃ k : Nat, k ≤ n ∧ i = .int .i64 k ∧ wr.ownsRow w.heap.size 3 1 o k (xsT a' k) ∧ Fr NoF w wr ∧ Fr (fun i => i = w.heap.size) w3 wr ∧ ∀ i, o.ownBlock = some i → i = w.heap.size ∨ w3.heap.size ≤ i) (fun _ i _ => n - (intOf i).toNat)
  case atStart => exact ⟨0, Nat.zero_le _, rfl, HR0.out, HF0.out, Fr.refl _ _, fun i q => by left; cases q; rfl⟩
  case round =>
    obtain ⟨k, hk, rfl, ho, hf, hf3, hob⟩ := hrel
    have HOB := Lib.hid hob
    have HO := Lib.hid ho
    have HF := Lib.hid hf
    have HF3 := Lib.hid hf3
    have hsz := hf.size
    by_cases hlt : k < n
    · obtain ⟨b, cap, ev, q1, q2, q3, y0, y1, y2⟩ := HTC.out wr hf3 k hlt
      simp only [Value.slice.injEq, true_and] at ev
      obtain ⟨rfl, rfl⟩ := ev
      have HX := Lib.hid (xsT_succ a' k)
      clear ho hf hf3 hob
      generalize (a' k).x = tx at *
      generalize (a' k).a = ua at *
      generalize (a' k).b = ub at *
      have f2 : Fr NoF wr ((wr.alloc (.cells #[.int .i64 tx, .int .i64 ua, .int .i64 ub] 54)).alloc (.cells #[.int .i64 tx] 3)) := ((Fr.refl NoF wr).alloc _).alloc _
      have FF2 := Lib.hid f2
      clear f2
      go_wp2_with (at_builtin; go_must (refine appLB (base := w.heap.size) EIint rfl _ _ rfl (by rfl) (by rfl) (by simp; omega) (own_keep HO.out FF2.out (fun _ _ q => q)) (SlC.ofOwn (own_new (w0 := wr) (by simp) #[.int .i64 tx] 3 1 1 _ (by simp) rfl (by unfold maxLen; omega)) (by simp [Value.oneCell'])) (by unfold maxLen; omega) (by omega) ?_); intro v' w2 hown' hf' hnb; have HNB := Lib.hid hnb; clear hnb; have HF' := Lib.hid hf'; have HO' := Lib.hid hown'; clear y0 y1 y2 hf' hown')
      go_roundw
      case rel =>
        refine ⟨k + 1, by omega, by go_num, ?_, ?_, ?_, ?_⟩
        · rw [HX.out]; exact HO'.out
        · exact (HF.out.trans FF2.out (fun _ q => q.elim)).trans HF'.out (fun i hi => .inr (ownBlock_own HO.out i hi))
        · exact (HF3.out.trans FF2.out (fun _ q => q.elim)).trans HF'.out (fun i hi => HOB.out i hi)
        · intro i hi
          have e1 := HF3.out.size
          have e2 := FF2.out.size
          rcases HNB.out i hi with q | q
          · exact HOB.out i q
          · exact .inr (by omega)
      case measure => simp [intOf]; omega
    · obtain rfl : k = n := by omega
      clear ho hf hf3 hob
      go_wp2
      go_returns
      exact ⟨_, a', rfl, HAll.out, HO.out, HF.out⟩
end
end Go.Proofs.Ytpebonpibhdfoaa
